/-
  What bytesOf tells: words as bytes, the highest first. What Pad tells: what stands behind a text. What steps tells: on from words by each block of a text. What Of tells: the digest of a text. What the document's Start and Constants tell: the same words as the program's own tables. What the document's Pad tells: the same as Pad. What DigestSteps returns: true, for every text, where the tables lie as their initialisers lay them.
-/
import Derived.Test.YtjikdbmdaeonlaaDoorGai
import Derived.Test.YtjikdbmdaeonlaaDoorGaf
namespace Go.Proofs.YtjikdbmdaeonlaaDoor.Dg
open Go.RowKit
set_option maxRecDepth 20000

theorem out_step (l : List Nat) (k : Nat) (h : k < l.length) (x : Nat) (hx : l.getD k 0 = x) (a b c d : Nat) (ha : x / 16777216 % 256 = a) (hb : x / 65536 % 256 = b) (hc : x / 256 % 256 = c) (hd : x % 256 = d) :
    cellsL (bytesL (l.take k)) ++ [.int .u8 (a : Int), .int .u8 (b : Int), .int .u8 (c : Int), .int .u8 (d : Int)] = cellsL (bytesL (l.take (k + 1))) := by
  rw [bytesL_step l k h, cellsL_append, hx]
  have e : putL x = [UInt8.ofNat a, UInt8.ofNat b, UInt8.ofNat c, UInt8.ofNat d] := by unfold putL; rw [ha, hb, hc, hd]
  rw [e]
  congr 1
  unfold cellsL
  simp only [List.map_cons, List.map_nil]
  rw [byte_of a (by omega), byte_of b (by omega), byte_of c (by omega), byte_of d (by omega)]

theorem info22 : (Tryd.prog.info? 66).map (fun i => (i.zero, i.size, i.bytes)) = some (some (.int .u32 0), 1, 4) := by kernel_rfl
theorem index_words (hc : Array Value) (k x : Nat) (hk : k < 8) (h : hc[k]? = some (.int .u32 (x : Int))) (w : World) :
    (Instr.index 67 (.agg hc) (.int .i64 (k : Int))).run Tryd.prog w = .ok (.int .u32 (x : Int)) w := by
  obtain ⟨i0, hi0, hz0, hz1, hz2⟩ := info_parts info22
  simp [Instr.index, asIntOf, run_underlying Tryd.underlying67, part, isAgg, run_underlying Tryd.underlying66, sizeOf, typeInfo, hi0, hz1, h]
  intro h8
  omega

set_option maxHeartbeats 1000000 in
theorem bytesOf_any (v : W8) (hv : ∀ j, v.list.getD j 0 < 4294967296) (w : World) :
    Calls Tryd.prog 47 #[.agg (cw v.list)] w fun e w' => e = .returned (.string (bs (bytesL v.list))) ∧ Kept w w' := by
  obtain ⟨i0, hi0, hz0, hz1, hz2⟩ := info_parts info5
  obtain ⟨hc, hhc⟩ : ∃ hc, cw v.list = hc := ⟨_, rfl⟩
  rw [hhc]
  have hcs : hc.size = 8 := by rw [← hhc, cw_size]; rfl
  obtain ⟨w1, hmk, r1, r2⟩ := run_make_own (P := Tryd.prog) (w.alloc (.cells hc 67)) w.heap.size 60 5 i0 _ 1 Tryd.underlying60 hi0 hz0 hz1 .i64 .i64 32 (by rw [hz2]; omega) (by unfold maxLen; omega) (by simp)
  have hb1 : Below w.heap.size w w1 := ((Below.refl w.heap.size w).alloc (Nat.le_refl _) (.cells hc 67)).grown r2 (by simp) (fun _ h => by cases h)
  have R1 : Row w1 w.heap.size hc 67 := by
    have h1 : Below (w.heap.size + 1) (w.alloc (.cells hc 67)) w1 := (Below.refl _ _).grown r2 (by simp) (fun _ h => by cases h)
    exact (h1.block w.heap.size (by omega)).trans (Row.new w hc 67)
  rw [show ((32 : Nat) : Int) = 32 from rfl] at hmk
  rw [World.heap_size_alloc] at r1
  clear r2
  go_enter Tryd.func47, Tryd.ntmps47
  go_upto_region 2 with fail
  clear hmk
  go_wp2_with (refine wpList_load_row (by rfl) 67 _ (by rfl) w.heap.size (by rfl) 67 hc (0, 0) _ R1 Tryd.underlying67 rfl (by rw [hcs]; exact i23) ?_)
  go_loopw [3, 8] (fun u i wr => ∃ k : Nat, k ≤ 8 ∧ i = .int .i64 (k : Int) ∧ wr.ownsRow w.heap.size 5 1 u (4 * k) (cellsL (bytesL (v.list.take k))) ∧ Below w.heap.size w wr) (fun _ i _ => (8 - intOf i).toNat)
  case atStart => exact ⟨0, by omega, rfl, r1, hb1⟩
  case round =>
    clear r1 hb1 R1
    obtain ⟨k, hk, rfl, hown, hb⟩ := hrel
    have hB := hb.size
    by_cases hlt : k < 8
    · obtain ⟨x, hx⟩ : ∃ x, v.list.getD k 0 = x := ⟨_, rfl⟩
      have hxl := hv k
      rw [hx] at hxl
      obtain ⟨a, ha⟩ : ∃ a, x / 16777216 % 256 = a := ⟨_, rfl⟩
      obtain ⟨b, hb'⟩ : ∃ a, x / 65536 % 256 = a := ⟨_, rfl⟩
      obtain ⟨c, hc'⟩ : ∃ a, x / 256 % 256 = a := ⟨_, rfl⟩
      obtain ⟨d, hd⟩ : ∃ a, x % 256 = a := ⟨_, rfl⟩
      have HS : Hid (_ = _) := out_step v.list k (by rw [show v.list.length = 8 from rfl]; exact hlt) x hx a b c d ha hb' hc' hd
      have hg := index_words hc k x hlt (by rw [← hhc, cw_get _ _ (by rw [show v.list.length = 8 from rfl]; exact hlt), hx])
      have ia : (x : Int) / 16777216 = (a : Int) := by omega
      have ib : (x : Int) / 65536 % 256 = (b : Int) := by omega
      have ic : (x : Int) / 256 % 256 = (c : Int) := by omega
      have id' : (x : Int) % 256 = (d : Int) := by omega
      clear hx ha hb' hc' hd hv hhc
      go_wp2_with (at_builtin; refine wpList_append_lies _ rfl _ _ 60 rfl w.heap.size 5 i0 (.int .u8 0) 1 1 Tryd.underlying60 hi0 hz0 hz1 hz2 rfl (by decide) _ _ _ rfl (hown.alloc _) ⟨wr.heap.size, 0, none⟩ 4 4 [.int .u8 (a : Int), .int .u8 (b : Int), .int .u8 (c : Int), .int .u8 (d : Int)] rfl rfl (World.news_of_block (cs := #[.int .u8 (a : Int), .int .u8 (b : Int), .int .u8 (c : Int), .int .u8 (d : Int)]) (t := 5) (fr := (0, 0)) (heap_alloc_new wr _)) (by simp [Value.oneCell']) (by decide) (by unfold maxLen; omega) (by omega) (by simp; omega) (wr.heap.size + 1) (by simp) ?_)
      intro gg cap w2 hown1 hgrow _ _
      rw [HS.out] at hown1
      go_wp2_with fail
      exact ⟨⟨k + 1, by omega, by go_num, hown1, grow_plain hown hb hgrow⟩, by simp [intOf]; omega⟩
    · obtain rfl : k = 8 := by omega
      have hcv := conv_own (by rw [bytesL_length]; rfl) hown
      rw [show v.list.take 8 = v.list from rfl] at hcv
      clear hown
      go_wp2_with fail
      go_ret
      exact ⟨rfl, Kept.below hb⟩

end Go.Proofs.YtjikdbmdaeonlaaDoor.Dg
namespace Go.Proofs.YtjikdbmdaeonlaaDoor.Dg
open Go.RowKit
set_option maxRecDepth 20000

theorem nats_length (l : List UInt8) : (nats l).length = l.length := by unfold nats; simp
theorem nats_get (l : List UInt8) (j : Nat) (h : j < l.length) : (nats l).getD j 0 = l[j].toNat := by
  unfold nats
  rw [List.getD_eq_getElem?_getD, List.getElem?_map, List.getElem?_eq_getElem h]; rfl
theorem nats_append (l m : List UInt8) : nats (l ++ m) = nats l ++ nats m := by unfold nats; rw [List.map_append]
theorem conv_row {w : World} {g n cap : Nat} {t : TypeId} {l : List UInt8} (hn : l.length = n) (R : Row w g (cb (nats l)) t) :
    (convert 60 9 (.slice (some ⟨g, 0, none⟩) n cap)).run Tryd.prog w = .ok (.string (bs l)) w := by
  subst hn
  exact run_convert_bytes_back w 60 9 5 ⟨g, 0, none⟩ cap l Tryd.underlying60 Tryd.underlying5 Tryd.underlying9 (fun j hj => by
    have ha : (Addr.add ⟨g, 0, none⟩ j) = ⟨g, j, none⟩ := by simp [Addr.add]; intro h; exact h.symm
    rw [ha, R.cell, cb_get _ _ (by rw [nats_length]; exact hj), nats_get _ _ hj])

/-- The lowest k bytes of a number, the highest first; the row when k of them are laid. -/
def lows (v : Nat) : Nat → List Nat
  | 0 => []
  | k + 1 => (v / 2 ^ (8 * k) % 256) :: lows v k
def fillP (S v k : Nat) : List Nat := 128 :: (List.replicate (S - 1 - k) 0 ++ lows v k)
theorem lows_length (v k : Nat) : (lows v k).length = k := by
  induction k with
  | zero => rfl
  | succ k ih => show (lows v k).length + 1 = _; rw [ih]
theorem fillP_length (S v k : Nat) (h : k + 1 ≤ S) : (fillP S v k).length = S := by
  show (List.replicate (S - 1 - k) 0 ++ lows v k).length + 1 = S
  rw [List.length_append, List.length_replicate, lows_length]; omega
theorem set_last (m y : Nat) (l : List Nat) : (List.replicate (m + 1) 0 ++ l).set m y = List.replicate m 0 ++ y :: l := by
  induction m with
  | zero => rfl
  | succ m ih => rw [List.replicate_succ, List.cons_append, List.set_cons_succ, ih]; rfl
theorem fillP_set (S v k : Nat) (h : k + 2 ≤ S) : (fillP S v k).set (S - 1 - k) (v / 2 ^ (8 * k) % 256) = fillP S v (k + 1) := by
  unfold fillP
  rw [show S - 1 - k = (S - 2 - k) + 1 by omega, List.set_cons_succ, set_last, show S - 1 - (k + 1) = S - 2 - k by omega]
  rfl
theorem fillP_all (n : Nat) : fillP (padS n) (8 * n % 18446744073709551616) 8 = nats (padL n) := by
  generalize hv : 8 * n % 18446744073709551616 = v
  unfold fillP padL
  rw [hv]
  show 128 :: _ = 128 :: nats (List.replicate (padS n - 9) 0 ++ be8 v)
  rw [nats_append, show padS n - 1 - 8 = padS n - 9 by omega]
  congr 2
  · unfold nats; rw [List.map_replicate]; rfl
  · show [v / 2 ^ 56 % 256, v / 2 ^ 48 % 256, v / 2 ^ 40 % 256, v / 2 ^ 32 % 256, v / 2 ^ 24 % 256, v / 2 ^ 16 % 256, v / 2 ^ 8 % 256, v / 2 ^ 0 % 256] = nats (be8 v)
    unfold nats be8
    simp only [List.map_cons, List.map_nil]
    rw [byte_of _ (by omega), byte_of _ (by omega), byte_of _ (by omega), byte_of _ (by omega), byte_of _ (by omega), byte_of _ (by omega), byte_of _ (by omega), byte_of _ (by omega)]
    simp

theorem made_row (n : Nat) : madeCells #[Value.int .u8 0] n = cb (List.replicate n 0) := by
  apply Array.ext'
  rw [toList_madeCells_one]
  unfold cb
  simp

theorem run_make_bytes (S : Nat) (hS : S ≤ 72) (w : World) : (Instr.makeSlice 60 (.int .i64 (S : Int)) (.int .i64 (S : Int))).run Tryd.prog w = .ok (.slice (some ⟨w.heap.size, 0, none⟩) S S) (w.alloc (.cells (cb (List.replicate S 0)) 5)) := by
  obtain ⟨i0, hi0, hz0, hz1, hz2⟩ := info_parts info5
  have h := run_make (P := Tryd.prog) w 60 5 i0 _ Tryd.underlying60 hi0 hz0 .i64 .i64 (S : Int) (S : Int) (by omega) (by omega) (by rw [hz2]; omega) (by omega)
  rw [hz1, Int.toNat_natCast, Nat.mul_one, show (Value.int .u8 0).cells = #[Value.int .u8 0] from rfl, made_row] at h
  exact h
theorem fill_start (S : Nat) (v : Nat) (h : 1 ≤ S) : (List.replicate S 0).set 0 128 = fillP S v 0 := by
  obtain ⟨m, rfl⟩ : ∃ m, S = m + 1 := ⟨S - 1, by omega⟩
  rw [List.replicate_succ, List.set_cons_zero]
  unfold fillP
  show 128 :: _ = 128 :: (List.replicate (m + 1 - 1 - 0) 0 ++ [])
  rw [List.append_nil]; rfl

set_option maxHeartbeats 1000000 in
theorem pad_core (a : Int) (n : Nat) (hn : n < 9223372036854775808) (hm : (if a < 0 then 0 else a) = (n : Int)) (w : World) :
    Calls Tryd.prog 48 #[.int .i64 a] w fun e w' => e = .returned (.string (bs (padL n))) ∧ Kept w w' := by
  obtain ⟨S, hS⟩ : ∃ S, padS n = S := ⟨_, rfl⟩
  obtain ⟨v, hv⟩ : ∃ v, 8 * n % 18446744073709551616 = v := ⟨_, rfl⟩
  have hS9 := padS_ge n
  have hS72 := padS_le n
  rw [hS] at hS9 hS72
  have HF : Hid (fillP S v 8 = nats (padL n)) := by show _ = _; rw [← hS, ← hv]; exact fillP_all n
  have HL : Hid ((padL n).length = S) := (padL_length n).trans hS
  have hmk := run_make_bytes S hS72
  have hvI : IntKind.u64.wrap (8 * (n : Int)) = (v : Int) := by rw [IntKind.wrap_u64]; omega
  have hvl : v < 18446744073709551616 := by omega
  have hdec : Hid ((decide (64 - (n : Int) % 64 ≤ 8) = true ∧ 64 - (n : Int) % 64 + 64 = (S : Int)) ∨ (decide (64 - (n : Int) % 64 ≤ 8) = false ∧ 64 - (n : Int) % 64 = (S : Int))) := by
    show _ ∨ _
    unfold padS at hS
    split at hS
    · exact .inl ⟨decide_eq_true (by omega), by omega⟩
    · exact .inr ⟨decide_eq_false (by omega), by omega⟩
  clear hS hv
  go_enter Tryd.func48, Tryd.ntmps48
  go_upto_region 2 with fail
  clear hm
  rcases hdec.out with ⟨hd1, hd2⟩ | ⟨hd1, hd2⟩
  all_goals
    clear hdec
    go_upto_region 6 with fail
    obtain ⟨W, hW, R, hK⟩ : ∃ W, W = w.alloc (.cells (cb (List.replicate S 0)) 5) ∧ Row W w.heap.size (cb (List.replicate S 0)) 5 ∧ Kept w W := ⟨_, rfl, Row.new w _ _, (Kept.refl w).allocR _⟩
    rw [← hW]
    clear hW hmk hd1 hd2
    have c0 : W.cell? ⟨w.heap.size, 0, none⟩ = some (.int .u8 0) := by rw [R.cell, cb_get _ _ (by rw [List.length_replicate]; omega)]; rw [List.getD_eq_getElem?_getD, List.getElem?_replicate, if_pos (by omega)]; rfl
    have f0 : W.frozen? ⟨w.heap.size, 0, none⟩ = false := R.frozen 0
    have hS0 : (0 : Int) < (S : Int) := by omega
    go_wp2_with fail
    have R0 : Row (W.setCell ⟨w.heap.size, 0, none⟩ (.int .u8 128)) w.heap.size (cb (fillP S v 0)) 5 := by
      have h := R.setCell 0 (.int .u8 ((128 : Nat) : Int))
      rw [cb_set, fill_start S v (by omega)] at h
      exact h
    have hK0 : Kept w (W.setCell ⟨w.heap.size, 0, none⟩ (.int .u8 128)) := hK.setCell (Nat.le_refl _) _
    generalize W.setCell ⟨w.heap.size, 0, none⟩ (.int .u8 128) = W2 at R0 hK0
    clear R hK c0 f0
    go_loopw [23] (fun i wr => ∃ k : Nat, k ≤ 8 ∧ i = .int .i64 (k : Int) ∧ Row wr w.heap.size (cb (fillP S v k)) 5 ∧ Kept w wr) (fun i _ => (8 - intOf i).toNat)
    case atStart => exact ⟨0, by omega, rfl, R0, hK0⟩
    case round =>
      clear R0 hK0
      obtain ⟨k, hk, rfl, R, hK⟩ := hrel
      by_cases hlt : k < 8
      · obtain ⟨q, hq⟩ : ∃ q, S - 1 - k = q := ⟨_, rfl⟩
        obtain ⟨d, hd⟩ : ∃ d, 8 * k = d := ⟨_, rfl⟩
        obtain ⟨y, hy⟩ : ∃ y, v / 2 ^ (8 * k) % 256 = y := ⟨_, rfl⟩
        have HS : Hid ((fillP S v k).set q y = fillP S v (k + 1)) := by show _ = _; rw [← hq, ← hy]; exact fillP_set S v k (by omega)
        have hqI : (S : Int) - 1 - (k : Int) = (q : Int) := by omega
        have hdI : (8 : Int) * (k : Int) = (d : Int) := by omega
        rw [hd] at hy
        have hyI : (v : Int) / 2 ^ d % 256 = (y : Int) := by rw [← hy]; simp
        have hq0 : (q : Int) < (S : Int) := by omega
        have hd64 : d < 64 := by omega
        obtain ⟨o, ho⟩ : ∃ o, wr.cell? ⟨w.heap.size, q, none⟩ = some o := ⟨_, (R.cell q).trans (cb_get _ _ (by rw [fillP_length _ _ _ (by omega)]; omega))⟩
        have hf : wr.frozen? ⟨w.heap.size, q, none⟩ = false := R.frozen q
        clear hq hd hy
        go_wp2_with fail
        refine ⟨⟨k + 1, by omega, by simp, ?_, hK.setCell (Nat.le_refl _) _⟩, by simp [intOf]; omega⟩
        have h := R.setCell q (.int .u8 (y : Int))
        rw [cb_set, HS.out] at h
        exact h
      · obtain rfl : k = 8 := by omega
        rw [HF.out] at R
        have hcv := conv_row (cap := S) HL.out R
        go_wp2_with fail
        go_ret
        exact ⟨rfl, hK⟩

theorem pad_any (n : Nat) (hn : n < 9223372036854775808) (w : World) :
    Calls Tryd.prog 48 #[.int .i64 (n : Int)] w fun e w' => e = .returned (.string (bs (padL n))) ∧ Kept w w' :=
  pad_core (n : Int) n hn (by rw [if_neg (by omega)]) w
theorem pad_neg (a : Int) (ha : a < 0) (w : World) :
    Calls Tryd.prog 48 #[.int .i64 a] w fun e w' => e = .returned (.string (bs (padL 0))) ∧ Kept w w' :=
  pad_core a 0 (by omega) (by rw [if_pos ha]; rfl) w

end Go.Proofs.YtjikdbmdaeonlaaDoor.Dg
namespace Go.Proofs.YtjikdbmdaeonlaaDoor.Dg
open Go.RowKit
set_option maxRecDepth 20000

theorem run_copy_text {w : World} {g : Nat} {cur : Array Value} (R : Row w g cur 97) (hc : cur.size = 64) (t : ByteArray) (ht : t.size = 64) (ty : TypeId) :
    (Builtin.copy_ #[60, 9] ty #[.slice (some ⟨g, 0, none⟩) 64 64, .string t]).run Tryd.prog w = .ok (goInt 64) (w.setRow g (cb (nats (L t)))) := by
  obtain ⟨i0, hi0, _, _, _⟩ := info_parts info5
  have hs := run_storeCells_from (P := Tryd.prog) g 97 (cb (nats (L t))).toList 0 cur w R (by simp [cb_size, nats_length, L_size, ht, hc]) (fun v hv => (Array.all_eq_true_iff_forall_mem.1 (cb_one _)) v (by simpa using hv))
  rw [List.take_zero, List.nil_append, Array.toArray_toList] at hs
  have he : (List.map (fun b => Value.int .u8 (b.toNat : Int)) t.data.toList).take 64 = (cb (nats (L t))).toList := by
    rw [List.take_of_length_le (by rw [List.length_map]; show (L t).length ≤ 64; rw [L_size]; omega)]
    unfold cb nats L
    simp
  simp [Builtin.copy_, run_underlying Tryd.underlying60, Builtin.lenOf, Builtin.firstCells, sizeOf, typeInfo, hi0, ht]
  rw [he, hs]
  rfl

theorem wpList_copy_text {w : World} {ops : Array Oper} {rest : List Oper} {o : Oper} {a : Act} {Q : Exit → Act → World → Prop} (hgd : o.guard = none) (d s : Operand)
    (ho : o.op = .call { callee := .builtin .copy, args := #[d, s], argTypes := #[60, 9] }) (g : Nat) (t : ByteArray) (hd : a.eval d = .slice (some ⟨g, 0, none⟩) 64 64) (hs : a.eval s = .string t)
    {cur : Array Value} (R : Row w g cur 97) (hc : cur.size = 64) (ht : t.size = 64)
    (h : wpList Tryd.prog ops Q rest (a.put o.dst (goInt 64)) (w.setRow g (cb (nats (L t))))) : wpList Tryd.prog ops Q (o :: rest) a w := by
  refine wpList_plain hgd fun K hK => ?_
  have hrun := run_copy_text R hc t ht o.type
  unfold Oper.wp
  simp [execOp, ho, resolve, invoke, builtin, hd, hs, hrun, Result.andThen]
  exact hK _ _ h
theorem addW_bound (v h : W8) : ∀ j, (addW v h).list.getD j 0 < 4294967296 := fun j => by
  have h8 : j = 0 ∨ j = 1 ∨ j = 2 ∨ j = 3 ∨ j = 4 ∨ j = 5 ∨ j = 6 ∨ j = 7 ∨ 8 ≤ j := by omega
  rcases h8 with rfl | rfl | rfl | rfl | rfl | rfl | rfl | rfl | h
  all_goals first | exact ad_lt _ _ | skip
  rw [List.getD_eq_getElem?_getD, List.getElem?_eq_none (by rw [list_length]; exact h)]
  decide
theorem blockK_bound (k : List Nat) (h : W8) (b : List Nat) : ∀ j, (blockK k h b).list.getD j 0 < 4294967296 := by unfold blockK; exact addW_bound _ _
theorem first_bound : ∀ j, firstN.list.getD j 0 < 4294967296 := fun j => by
  have h8 : j = 0 ∨ j = 1 ∨ j = 2 ∨ j = 3 ∨ j = 4 ∨ j = 5 ∨ j = 6 ∨ j = 7 ∨ 8 ≤ j := by omega
  rcases h8 with rfl | rfl | rfl | rfl | rfl | rfl | rfl | rfl | h
  all_goals first | decide | skip
  rw [List.getD_eq_getElem?_getD, List.getElem?_eq_none (by rw [list_length]; exact h)]
  decide
theorem stepsK_bound (k : List Nat) (h : W8) (hh : ∀ j, h.list.getD j 0 < 4294967296) (l : List UInt8) (n : Nat) : ∀ j, (stepsK k h l n).list.getD j 0 < 4294967296 := by
  cases n with
  | zero => exact hh
  | succ n => unfold stepsK; exact blockK_bound _ _ _
theorem nats_lt (l : List UInt8) : ∀ j, (nats l).getD j 0 < 256 := fun j => by
  by_cases h : j < l.length
  · rw [nats_get l j h]; exact l[j].toNat_lt
  · rw [List.getD_eq_getElem?_getD, List.getElem?_eq_none (by rw [nats_length]; omega)]; decide

set_option maxHeartbeats 1000000 in
theorem steps_any (h : W8) (s : ByteArray) (m : Nat) (hs : s.size = 64 * m) (hm : m ≤ 100) (w : World) (hT : Tab w) :
    Calls Tryd.prog 46 #[.agg (cw h.list), .string s] w fun e w' => e = .returned (.agg (cw (stepsK roundsN h (L s) m).list)) ∧ Kept w w' := by
  obtain ⟨hc, hhc⟩ : ∃ hc, cw h.list = hc := ⟨_, rfl⟩
  rw [hhc]
  go_enter Tryd.func46, Tryd.ntmps46
  go_wp2_with fail
  go_loopw [5, 6] (fun i _ wr => ∃ k : Nat, k ≤ m ∧ i = .int .i64 ((64 * k : Nat) : Int) ∧ Row wr w.heap.size (cw (stepsK roundsN h (L s) k).list) 67 ∧ (∃ z, Row wr (w.heap.size + 1) z 67 ∧ z.size = 8) ∧ Kept w wr) (fun i _ _ => s.size - (intOf i).toNat)
  case atStart => exact ⟨0, by omega, rfl, hhc ▸ (Row.new w _ _).alloc _, ⟨_, Row.newAt (by simp) _ _, rfl⟩, ((Kept.refl w).allocR _).allocR _⟩
  case round =>
    obtain ⟨k, hk, rfl, R0, ⟨z, R1, hz⟩, hK⟩ := hrel
    have HZ : Hid (z.size = 8) := hz
    clear hz
    obtain ⟨v, hv⟩ : ∃ v, stepsK roundsN h (L s) k = v := ⟨_, rfl⟩
    rw [hv] at R0
    by_cases hlt : k < m
    · obtain ⟨q, hq⟩ : ∃ q, 64 * k = q := ⟨_, rfl⟩
      have hq1 : q + 64 ≤ s.size := by omega
      have hx1 : decide ((s.size : Int) < (q : Int) + 64) = false := decide_eq_false (by omega)
      rw [hq]
      go_upto_region 5 with fail
      obtain ⟨Z, hZ⟩ : ∃ Z : Array Value, Z = #[.int .u8 0, .int .u8 0, .int .u8 0, .int .u8 0, .int .u8 0, .int .u8 0, .int .u8 0, .int .u8 0, .int .u8 0, .int .u8 0, .int .u8 0, .int .u8 0, .int .u8 0, .int .u8 0, .int .u8 0, .int .u8 0, .int .u8 0, .int .u8 0, .int .u8 0, .int .u8 0, .int .u8 0, .int .u8 0, .int .u8 0, .int .u8 0, .int .u8 0, .int .u8 0, .int .u8 0, .int .u8 0, .int .u8 0, .int .u8 0, .int .u8 0, .int .u8 0, .int .u8 0, .int .u8 0, .int .u8 0, .int .u8 0, .int .u8 0, .int .u8 0, .int .u8 0, .int .u8 0, .int .u8 0, .int .u8 0, .int .u8 0, .int .u8 0, .int .u8 0, .int .u8 0, .int .u8 0, .int .u8 0, .int .u8 0, .int .u8 0, .int .u8 0, .int .u8 0, .int .u8 0, .int .u8 0, .int .u8 0, .int .u8 0, .int .u8 0, .int .u8 0, .int .u8 0, .int .u8 0, .int .u8 0, .int .u8 0, .int .u8 0, .int .u8 0] := ⟨_, rfl⟩
      rw [← hZ]
      have hZs : Z.size = 64 := by rw [hZ]; rfl
      obtain ⟨W, hW, S0, S1, S2, hK2⟩ : ∃ W, W = wr.alloc (.cells Z 97) ∧ Row W w.heap.size (cw v.list) 67 ∧ Row W (w.heap.size + 1) z 67 ∧ Row W wr.heap.size Z 97 ∧ Kept w W := ⟨_, rfl, R0.alloc _, R1.alloc _, Row.new wr _ _, hK.allocR _⟩
      rw [← hW]
      clear hW hZ
      have hne : Nonempty (KeptW W) := ⟨⟨W, Kept.refl W⟩⟩
      have hts : (s.extract q (q + 64)).size = 64 := by rw [← L_size, L_extract, List.length_drop, List.length_take, L_size]; omega
      refine region_part 6 W (Kept.refl W) (by kernel_rfl) (by kernel_rfl) (by rfl) ?_
      simp only [List.take_succ_cons, List.take_zero, List.drop_succ_cons, List.drop_zero]
      repeat (go_big_quiet_step (fail))
      refine wpQuiet_nil ?_
      rintro w2 ⟨⟨_, hk2⟩, rfl⟩
      have T2 := S2.kept hk2
      go_upto_region 6 with (refine wpList_copy_text (by rfl) _ _ (by rfl) wr.heap.size (s.extract q (q + 64)) (by rfl) (by rfl) T2 hZs hts ?_)
      obtain ⟨bl, hbl⟩ : ∃ bl, nats (L (s.extract q (q + 64))) = bl := ⟨_, rfl⟩
      have HV : Hid (stepsK roundsN h (L s) (k + 1) = blockN v bl) := by
        show stepsK roundsN h (L s) (k + 1) = _
        rw [stepsK, hv, ← hbl, L_extract, hq, List.drop_take, show q + 64 - q = 64 by omega]
        rfl
      have hbl64 : bl.length = 64 := by rw [← hbl, nats_length, L_size]; exact hts
      have hb256 : ∀ j, bl.getD j 0 < 256 := by rw [← hbl]; exact nats_lt _
      rw [hbl]
      have hgw : w.heap.size + 1 < wr.heap.size := R1.lt
      obtain ⟨W3, hW3, U0, U1, U2, hK3⟩ : ∃ W3, W3 = w2.setRow wr.heap.size (cb bl) ∧ Row W3 w.heap.size (cw v.list) 67 ∧ Row W3 (w.heap.size + 1) z 67 ∧ Row W3 wr.heap.size (cb bl) 97 ∧ Kept w W3 :=
        ⟨_, rfl, (S0.kept hk2).setOther (by omega) _, (S1.kept hk2).setOther (by omega) _, T2.set _, (hK2.trans hk2).setRow (by omega) _⟩
      rw [← hW3]
      have hcall := block_any v bl hbl64 hb256 W3 (hT.kept hK3)
      clear hW3 hbl hb256 T2 S0 S1 S2 hK2 hk2 hts
      go_wp2_with (first | refine wpList_load_row (by rfl) 67 _ (by rfl) w.heap.size (by rfl) 67 (cw v.list) (0, 0) _ U0 Tryd.underlying67 rfl (by rw [cw_size]; exact i23) ?_ | refine wpList_load_row (by rfl) 97 _ (by rfl) wr.heap.size (by rfl) 97 (cb bl) (0, 0) _ U2 Tryd.underlying97 rfl (by rw [cb_size, hbl64]; exact i24) ?_)
      refine hcall.mono ?_
      rintro _ w4 ⟨rfl, k4⟩
      clear hcall
      obtain ⟨r, hr⟩ : ∃ r, blockN v bl = r := ⟨_, rfl⟩
      rw [hr] at HV ⊢
      clear hr
      have V0 := U0.kept k4
      have V1 := U1.kept k4
      have hK4 := hK3.trans k4
      clear U0 U1 U2 k4 hK3
      go_wp2_with (refine wpList_store_row (by rfl) 67 _ _ (by rfl) w.heap.size (cw r.list) (by rfl) (by rfl) 67 (cw v.list) V0 (by rw [cw_size]; exact i23) (by rw [cw_size, cw_size]; rfl) (cw_one _) ?_)
      go_roundw
      case rel =>
        refine ⟨k + 1, by omega, by go_num, ?_, ⟨z, V1.setOther (by omega) _, HZ.out⟩, hK4.setRow (by omega) _⟩
        rw [HV.out]
        exact V0.set _
      case measure => simp [intOf]; omega
    · obtain rfl : k = m := by omega
      have HV : Hid (stepsK roundsN h (L s) k = v) := hv
      clear hv
      go_upto_region 7 with fail
      go_wp2_with (first | refine wpList_load_row (by rfl) 67 _ (by rfl) w.heap.size (by rfl) 67 (cw v.list) (0, 0) _ R0 Tryd.underlying67 rfl (by rw [cw_size]; exact i23) ?_ | refine wpList_store_row (by rfl) 67 _ _ (by rfl) (w.heap.size + 1) (cw v.list) (by rfl) (by rfl) 67 z R1 (by rw [cw_size]; exact i23) (by rw [cw_size]; exact HZ.out) (cw_one _) ?_)
      exact bodyPost_ret (results_cell_row rfl _ _ (w.heap.size + 1) 67 (cw v.list) (0, 0) _ rfl (R1.set _) Tryd.underlying67 rfl (by rw [cw_size]; exact i23)) rfl ⟨by rw [HV.out], hK.setRow (by omega) _⟩

end Go.Proofs.YtjikdbmdaeonlaaDoor.Dg
namespace Go.Proofs.YtjikdbmdaeonlaaDoor.Dg
open Go.RowKit
set_option maxRecDepth 20000

/-- The two runs over a text's blocks: what is whole, and the rest with what stands behind. -/
theorem of_parts (s : ByteArray) (p : Nat) (hp : s.size / 64 = p) (r : ByteArray) (hr : L r = ((L s).drop (64 * p)) ++ padL s.size) (q : Nat) (hq : r.size = 64 * q) :
    bytesL (stepsK roundsN (stepsK roundsN firstN (L (s.extract 0 (64 * p))) p) (L r) q).list = ofL (L s) := by
  have hl := L_size s
  have h1 : L (s.extract 0 (64 * p)) = (L s).take (64 * p) := by rw [L_extract, List.drop_zero]
  have h2 : (L s).take (64 * p) ++ L r = L s ++ padL s.size := by rw [hr, ← List.append_assoc, List.take_append_drop]
  have h3 : ((L s).take (64 * p)).length = 64 * p := by rw [List.length_take]; omega
  have h4 : r.size = s.size - 64 * p + padS s.size := by rw [← L_size, hr, List.length_append, List.length_drop, padL_length, hl]
  unfold ofL ofK
  rw [h1, ← stepsK_add roundsN firstN _ _ p q h3, h2, hl, show (s.size + padS s.size) / 64 = p + q by omega]

theorem Row.setW {w : World} {g : Nat} {t : TypeId} {l : List Nat} (R : Row w g (cw l) t) (i x : Nat) : Row (w.setCell ⟨g, i, none⟩ (.int .u32 (x : Int))) g (cw (l.set i x)) t := by
  have h := R.setCell i (.int .u32 (x : Int))
  rw [cw_set] at h
  exact h
theorem row_set8 {w1 : World} {g : Nat} (R : Row w1 g (cw [0, 0, 0, 0, 0, 0, 0, 0]) 67) (v : W8) : Row ((((((((((((((((w1).setCell ⟨g, 0, none⟩ (.int .u32 (v.a : Int)))).setCell ⟨g, 1, none⟩ (.int .u32 (v.b : Int)))).setCell ⟨g, 2, none⟩ (.int .u32 (v.c : Int)))).setCell ⟨g, 3, none⟩ (.int .u32 (v.d : Int)))).setCell ⟨g, 4, none⟩ (.int .u32 (v.e : Int)))).setCell ⟨g, 5, none⟩ (.int .u32 (v.f : Int)))).setCell ⟨g, 6, none⟩ (.int .u32 (v.g : Int)))).setCell ⟨g, 7, none⟩ (.int .u32 (v.h : Int))) g (cw v.list) 67 := by
  have h := (((((((R.setW 0 v.a).setW 1 v.b).setW 2 v.c).setW 3 v.d).setW 4 v.e).setW 5 v.f).setW 6 v.g).setW 7 v.h
  simp only [List.set_cons_zero, List.set_cons_succ] at h
  exact h
theorem kept_set8 {w w1 : World} {g : Nat} (k : Kept w w1) (h : w.heap.size ≤ g) (v : W8) : Kept w ((((((((((((((((w1).setCell ⟨g, 0, none⟩ (.int .u32 (v.a : Int)))).setCell ⟨g, 1, none⟩ (.int .u32 (v.b : Int)))).setCell ⟨g, 2, none⟩ (.int .u32 (v.c : Int)))).setCell ⟨g, 3, none⟩ (.int .u32 (v.d : Int)))).setCell ⟨g, 4, none⟩ (.int .u32 (v.e : Int)))).setCell ⟨g, 5, none⟩ (.int .u32 (v.f : Int)))).setCell ⟨g, 6, none⟩ (.int .u32 (v.g : Int)))).setCell ⟨g, 7, none⟩ (.int .u32 (v.h : Int))) :=
  (((((((k.setCell h _).setCell h _).setCell h _).setCell h _).setCell h _).setCell h _).setCell h _).setCell h _

set_option maxHeartbeats 1000000 in
theorem of_any (s : ByteArray) (hs : s.size ≤ 4000) (w : World) (hT : Tab w) :
    Calls Tryd.prog 27 #[.string s] w fun e w' => e = .returned (.string (bs (ofL (L s)))) ∧ Kept w w' := by
  obtain ⟨p, hp⟩ : ∃ p, s.size / 64 = p := ⟨_, rfl⟩
  obtain ⟨x, hx⟩ : ∃ x, 64 * p = x := ⟨_, rfl⟩
  have hxI : (s.size : Int) - (s.size : Int) % 64 = (x : Int) := by omega
  have hx1 : x ≤ s.size := by omega
  go_enter Tryd.func27, Tryd.ntmps27
  have hcall := steps_any firstN (s.extract 0 x) p (by rw [← L_size, L_extract, List.drop_zero, List.length_take, L_size]; omega) (by omega)
  obtain ⟨v, hv⟩ : ∃ v, stepsK roundsN firstN (L (s.extract 0 x)) p = v := ⟨_, rfl⟩
  rw [hv] at hcall
  have hcall2 : ∀ w : World, Tab w → Calls Tryd.prog 46 #[.agg #[.int .u32 1779033703, .int .u32 3144134277, .int .u32 1013904242, .int .u32 2773480762, .int .u32 1359893119, .int .u32 2600822924, .int .u32 528734635, .int .u32 1541459225], .string (s.extract 0 x)] w fun e w' => e = .returned (.agg #[.int .u32 (v.a : Int), .int .u32 (v.b : Int), .int .u32 (v.c : Int), .int .u32 (v.d : Int), .int .u32 (v.e : Int), .int .u32 (v.f : Int), .int .u32 (v.g : Int), .int .u32 (v.h : Int)]) ∧ Kept w w' := hcall
  have c0 : w.cell? ⟨0, 0, none⟩ = some (.int .u32 1779033703) := hT.1.cell 0
  have c1 : w.cell? ⟨0, 1, none⟩ = some (.int .u32 3144134277) := hT.1.cell 1
  have c2 : w.cell? ⟨0, 2, none⟩ = some (.int .u32 1013904242) := hT.1.cell 2
  have c3 : w.cell? ⟨0, 3, none⟩ = some (.int .u32 2773480762) := hT.1.cell 3
  have c4 : w.cell? ⟨0, 4, none⟩ = some (.int .u32 1359893119) := hT.1.cell 4
  have c5 : w.cell? ⟨0, 5, none⟩ = some (.int .u32 2600822924) := hT.1.cell 5
  have c6 : w.cell? ⟨0, 6, none⟩ = some (.int .u32 528734635) := hT.1.cell 6
  have c7 : w.cell? ⟨0, 7, none⟩ = some (.int .u32 1541459225) := hT.1.cell 7
  have hw0 : 0 < w.heap.size := hT.1.lt
  have hz0 : w.heap.size ≠ 0 := by omega
  have hz1 : 0 ≠ w.heap.size := by omega
  obtain ⟨r, hr⟩ : ∃ r, s.extract x s.size ++ bs (padL s.size) = r := ⟨_, rfl⟩
  have hrL : L r = (L s).drop (64 * p) ++ padL s.size := by
    rw [← hr, L_append, L_extract, L_bs, hx, List.take_of_length_le (by rw [L_size]; omega)]
  have hrs : r.size = s.size - x + padS s.size := by rw [← L_size, hrL, List.length_append, List.length_drop, padL_length, L_size, hx]
  obtain ⟨q, hq⟩ : ∃ q, r.size / 64 = q := ⟨_, rfl⟩
  have hrq : r.size = 64 * q := by have := padS_mod s.size; omega
  have hr72 := padS_le s.size
  obtain ⟨u, hu⟩ : ∃ u, stepsK roundsN v (L r) q = u := ⟨_, rfl⟩
  have hst : ∀ w : World, Tab w → Calls Tryd.prog 46 #[.agg #[.int .u32 (v.a : Int), .int .u32 (v.b : Int), .int .u32 (v.c : Int), .int .u32 (v.d : Int), .int .u32 (v.e : Int), .int .u32 (v.f : Int), .int .u32 (v.g : Int), .int .u32 (v.h : Int)], .string r] w fun e w' => e = .returned (.agg #[.int .u32 (u.a : Int), .int .u32 (u.b : Int), .int .u32 (u.c : Int), .int .u32 (u.d : Int), .int .u32 (u.e : Int), .int .u32 (u.f : Int), .int .u32 (u.g : Int), .int .u32 (u.h : Int)]) ∧ Kept w w' := by
    have h := steps_any v r q hrq (by omega)
    rw [hu] at h
    exact h
  have hub : ∀ j, u.list.getD j 0 < 4294967296 := by
    rw [← hu, ← hv]
    exact stepsK_bound _ _ (stepsK_bound _ _ first_bound _ _) _ _
  have HO : Hid (bytesL u.list = ofL (L s)) := by
    show _ = _
    rw [← of_parts s p hp r hrL q hrq, ← hu, ← hv, hx]
  have hout : ∀ w : World, Calls Tryd.prog 47 #[.agg #[.int .u32 (u.a : Int), .int .u32 (u.b : Int), .int .u32 (u.c : Int), .int .u32 (u.d : Int), .int .u32 (u.e : Int), .int .u32 (u.f : Int), .int .u32 (u.g : Int), .int .u32 (u.h : Int)]] w fun e w' => e = .returned (.string (bs (bytesL u.list))) ∧ Kept w w' := bytesOf_any u hub
  rw [HO.out] at hout
  have hpad := pad_any s.size (by omega)
  have hpb : (bs (padL s.size)).size ≤ 72 := by rw [bs_size, padL_length]; exact padS_le _
  clear hcall hx hp hrL hrs hq hrq hr72 hu hv hub HO
  go_wp2_with fail
  go_region_held3 (fun w' => w'.cell? ⟨0, 0, none⟩ = some (.int .u32 1779033703) ∧ w'.cell? ⟨0, 1, none⟩ = some (.int .u32 3144134277) ∧ w'.cell? ⟨0, 2, none⟩ = some (.int .u32 1013904242) ∧ w'.cell? ⟨0, 3, none⟩ = some (.int .u32 2773480762) ∧ w'.cell? ⟨0, 4, none⟩ = some (.int .u32 1359893119) ∧ w'.cell? ⟨0, 5, none⟩ = some (.int .u32 2600822924) ∧ w'.cell? ⟨0, 6, none⟩ = some (.int .u32 528734635) ∧ w'.cell? ⟨0, 7, none⟩ = some (.int .u32 1541459225))
    (go_keep)
    ((go_at_call 46; refine (hcall2 _ (by first | exact hT.kept (Kept.drew _) | exact hT.kept ((Kept.drew _).allocR _))).mono ?_; rintro _ w1 ⟨rfl, k1⟩; have T1 : Tab w1 := (by first | exact (hT.kept (Kept.drew _)).kept k1 | exact (hT.kept ((Kept.drew _).allocR _)).kept k1); have m0 : w1.cell? ⟨0, 0, none⟩ = some (.int .u32 1779033703) := T1.1.cell 0; have m1 : w1.cell? ⟨0, 1, none⟩ = some (.int .u32 3144134277) := T1.1.cell 1; have m2 : w1.cell? ⟨0, 2, none⟩ = some (.int .u32 1013904242) := T1.1.cell 2; have m3 : w1.cell? ⟨0, 3, none⟩ = some (.int .u32 2773480762) := T1.1.cell 3; have m4 : w1.cell? ⟨0, 4, none⟩ = some (.int .u32 1359893119) := T1.1.cell 4; have m5 : w1.cell? ⟨0, 5, none⟩ = some (.int .u32 2600822924) := T1.1.cell 5; have m6 : w1.cell? ⟨0, 6, none⟩ = some (.int .u32 528734635) := T1.1.cell 6; have m7 : w1.cell? ⟨0, 7, none⟩ = some (.int .u32 1541459225) := T1.1.cell 7; first | (have R1 : Row w1 w.heap.size (cw [0, 0, 0, 0, 0, 0, 0, 0]) 67 := Row.kept (Row.new8 w.drew 67) k1; have z0 : w1.cell? ⟨w.heap.size, 0, none⟩ = some (.int .u32 0) := R1.cell 0; have y0 : w1.frozen? ⟨w.heap.size, 0, none⟩ = false := R1.frozen 0; have z1 : w1.cell? ⟨w.heap.size, 1, none⟩ = some (.int .u32 0) := R1.cell 1; have y1 : w1.frozen? ⟨w.heap.size, 1, none⟩ = false := R1.frozen 1; have z2 : w1.cell? ⟨w.heap.size, 2, none⟩ = some (.int .u32 0) := R1.cell 2; have y2 : w1.frozen? ⟨w.heap.size, 2, none⟩ = false := R1.frozen 2; have z3 : w1.cell? ⟨w.heap.size, 3, none⟩ = some (.int .u32 0) := R1.cell 3; have y3 : w1.frozen? ⟨w.heap.size, 3, none⟩ = false := R1.frozen 3; have z4 : w1.cell? ⟨w.heap.size, 4, none⟩ = some (.int .u32 0) := R1.cell 4; have y4 : w1.frozen? ⟨w.heap.size, 4, none⟩ = false := R1.frozen 4; have z5 : w1.cell? ⟨w.heap.size, 5, none⟩ = some (.int .u32 0) := R1.cell 5; have y5 : w1.frozen? ⟨w.heap.size, 5, none⟩ = false := R1.frozen 5; have z6 : w1.cell? ⟨w.heap.size, 6, none⟩ = some (.int .u32 0) := R1.cell 6; have y6 : w1.frozen? ⟨w.heap.size, 6, none⟩ = false := R1.frozen 6; have z7 : w1.cell? ⟨w.heap.size, 7, none⟩ = some (.int .u32 0) := R1.cell 7; have y7 : w1.frozen? ⟨w.heap.size, 7, none⟩ = false := R1.frozen 7) | skip))
  all_goals first
    | (have R4 := Row.new w1 #[.int .u32 (v.a : Int), .int .u32 (v.b : Int), .int .u32 (v.c : Int), .int .u32 (v.d : Int), .int .u32 (v.e : Int), .int .u32 (v.f : Int), .int .u32 (v.g : Int), .int .u32 (v.h : Int)] 67
       have K4 : Kept w (w1.alloc (.cells #[.int .u32 (v.a : Int), .int .u32 (v.b : Int), .int .u32 (v.c : Int), .int .u32 (v.d : Int), .int .u32 (v.e : Int), .int .u32 (v.f : Int), .int .u32 (v.g : Int), .int .u32 (v.h : Int)] 67)) := ((Kept.drew w).trans k1).allocR _
       generalize w1.alloc (.cells #[.int .u32 (v.a : Int), .int .u32 (v.b : Int), .int .u32 (v.c : Int), .int .u32 (v.d : Int), .int .u32 (v.e : Int), .int .u32 (v.f : Int), .int .u32 (v.g : Int), .int .u32 (v.h : Int)] 67) = W at R4 K4 ⊢
       generalize w1.heap.size = G at R4 ⊢)
    | (have R4 := row_set8 R1 v
       have K4 := kept_set8 (((Kept.drew w).allocR _).trans k1) (Nat.le_refl _) v
       generalize ((((((((((((((((w1).setCell ⟨w.heap.size, 0, none⟩ (.int .u32 (v.a : Int)))).setCell ⟨w.heap.size, 1, none⟩ (.int .u32 (v.b : Int)))).setCell ⟨w.heap.size, 2, none⟩ (.int .u32 (v.c : Int)))).setCell ⟨w.heap.size, 3, none⟩ (.int .u32 (v.d : Int)))).setCell ⟨w.heap.size, 4, none⟩ (.int .u32 (v.e : Int)))).setCell ⟨w.heap.size, 5, none⟩ (.int .u32 (v.f : Int)))).setCell ⟨w.heap.size, 6, none⟩ (.int .u32 (v.g : Int)))).setCell ⟨w.heap.size, 7, none⟩ (.int .u32 (v.h : Int))) = W at R4 K4 ⊢
       generalize w.heap.size = G at R4 ⊢)
  all_goals
    clear k1 hcall2
    have hT4 := hT.kept K4
    have hne : Nonempty (KeptW W) := ⟨⟨W, Kept.refl W⟩⟩
    have hx2 : decide ((s.size : Int) < (x : Int)) = false := decide_eq_false (by omega)
    have hx3 : decide (s.size < x) = false := decide_eq_false (by omega)
    have d0 : ∀ p : KeptW W, p.v.cell? ⟨G, 0, none⟩ = some (.int .u32 (v.a : Int)) := fun p => (p.h.cell R4.lt).trans (R4.cell 0)
    have d1 : ∀ p : KeptW W, p.v.cell? ⟨G, 1, none⟩ = some (.int .u32 (v.b : Int)) := fun p => (p.h.cell R4.lt).trans (R4.cell 1)
    have d2 : ∀ p : KeptW W, p.v.cell? ⟨G, 2, none⟩ = some (.int .u32 (v.c : Int)) := fun p => (p.h.cell R4.lt).trans (R4.cell 2)
    have d3 : ∀ p : KeptW W, p.v.cell? ⟨G, 3, none⟩ = some (.int .u32 (v.d : Int)) := fun p => (p.h.cell R4.lt).trans (R4.cell 3)
    have d4 : ∀ p : KeptW W, p.v.cell? ⟨G, 4, none⟩ = some (.int .u32 (v.e : Int)) := fun p => (p.h.cell R4.lt).trans (R4.cell 4)
    have d5 : ∀ p : KeptW W, p.v.cell? ⟨G, 5, none⟩ = some (.int .u32 (v.f : Int)) := fun p => (p.h.cell R4.lt).trans (R4.cell 5)
    have d6 : ∀ p : KeptW W, p.v.cell? ⟨G, 6, none⟩ = some (.int .u32 (v.g : Int)) := fun p => (p.h.cell R4.lt).trans (R4.cell 6)
    have d7 : ∀ p : KeptW W, p.v.cell? ⟨G, 7, none⟩ = some (.int .u32 (v.h : Int)) := fun p => (p.h.cell R4.lt).trans (R4.cell 7)
    clear hxI R4 hT
    go_wp2_with fail
    refine region_kept W (Kept.refl W) (by kernel_rfl) (by kernel_rfl) ?_
    repeat (go_big_quiet_step (first
      | (go_at_call 48; exact Calls.keptw (hpad _))
      | (go_at_call 46; exact Calls.keptw (hst _ (hT4.kept (KeptW.h _))))
      | (go_at_call 47; exact Calls.keptw (hout _))))
    refine wpQuiet_nil ?_
    rintro w5 ⟨⟨_, k5⟩, rfl⟩
    go_wp2_with fail
    go_ret
    exact ⟨rfl, K4.trans k5⟩

end Go.Proofs.YtjikdbmdaeonlaaDoor.Dg
namespace Go.Proofs.YtjikdbmdaeonlaaDoor.Dg
open Go.RowKit
set_option maxRecDepth 20000

/-- A row of n words, the first ones laid. -/
def padTo (n : Nat) (l : List Nat) : List Nat := l ++ List.replicate (n - l.length) 0
theorem padTo_length (n : Nat) (l : List Nat) (h : l.length ≤ n) : (padTo n l).length = n := by
  unfold padTo; rw [List.length_append, List.length_replicate]; omega
theorem padTo_set (n : Nat) (l : List Nat) (x : Nat) (h : l.length < n) : (padTo n l).set l.length x = padTo n (l ++ [x]) := by
  unfold padTo
  rw [List.set_append_right _ _ (Nat.le_refl _), Nat.sub_self, show n - l.length = (n - 1 - l.length) + 1 by omega, List.replicate_succ, List.set_cons_zero, List.length_append, List.append_assoc]
  congr 2
  show List.replicate (n - 1 - l.length) 0 = List.replicate (n - (l.length + 1)) 0
  congr 1
  omega
theorem padTo_full (n : Nat) (l : List Nat) (h : l.length = n) : padTo n l = l := by
  unfold padTo; rw [h]; simp
theorem pushTo {w : World} {g k n : Nat} {t : TypeId} {l : List Nat} (R : Row w g (cw (padTo n l)) t) (hk : l.length = k) (h : k < n) (x : Nat) : Row (w.setCell ⟨g, k, none⟩ (.int .u32 (x : Int))) g (cw (padTo n (l ++ [x]))) t := by
  subst hk
  have h1 := R.setCell l.length (.int .u32 (x : Int))
  rw [cw_set, padTo_set _ _ _ h] at h1
  exact h1
theorem low18 : ∀ k, k < 18 → (prN k).length < 8 := fun k hk => by
  have h := prN_mono k (17 - k)
  rw [show k + (17 - k) = 17 by omega, pr17] at h
  omega
theorem low310 : ∀ k, k < 310 → (prN k).length < 64 := fun k hk => by
  have h := prN_mono k (309 - k)
  rw [show k + (309 - k) = 309 by omega, pr309] at h
  omega

set_option maxHeartbeats 2000000 in
theorem start_any (w : World) :
    Calls Tryd.prog 34 #[] w fun e w' => e = .returned (.agg (cw firstN.list)) ∧ Kept w w' := by
  obtain ⟨S, hS⟩ : ∃ S, (prN 18).map squareN = S := ⟨_, rfl⟩
  have hSl : S.length = 8 := by rw [← hS, List.length_map, pr18]
  have HST : Hid (S = firstN.list) := by rw [← hS]; exact start_all
  have HSG : Hid (∀ k x : Nat, (prN 18)[k]? = some x → S[k]? = some (squareN x)) := fun k x h => by rw [← hS, List.getElem?_map, h]; rfl
  obtain ⟨l, hl⟩ : ∃ l, prN 18 = l := ⟨_, rfl⟩
  have hll : l.length = 8 := by rw [← hl, pr18]
  have hcall := primes_any 8 18 pr18 low18 (by decide) (by decide)
  rw [hl] at hcall HSG
  clear hS hl
  go_enter Tryd.func34, Tryd.ntmps34
  go_upto_region 2 with fail
  obtain ⟨Z, hZ⟩ : ∃ Z : Array Value, Z = #[.int .u32 0, .int .u32 0, .int .u32 0, .int .u32 0, .int .u32 0, .int .u32 0, .int .u32 0, .int .u32 0] := ⟨_, rfl⟩
  rw [← hZ]
  have hZs : Z.size = 8 := by rw [hZ]; rfl
  have R0 : Row ((w.alloc (.cells Z 67)).alloc (.cells Z 67)) w.heap.size Z 67 := (Row.new w _ _).alloc _
  have R1 : Row ((w.alloc (.cells Z 67)).alloc (.cells Z 67)) (w.heap.size + 1) (cw (padTo 8 (S.take 0))) 67 := by
    have h : Z = cw (padTo 8 (S.take 0)) := by rw [hZ]; rfl
    rw [← h]
    exact Row.newAt (by simp) _ _
  have K0 : Kept w ((w.alloc (.cells Z 67)).alloc (.cells Z 67)) := ((Kept.refl w).allocR _).allocR _
  have hW0 : ((w.alloc (.cells Z 67)).alloc (.cells Z 67)).heap.size = w.heap.size + 2 := by simp
  generalize (w.alloc (.cells Z 67)).alloc (.cells Z 67) = W0 at R0 R1 K0 hW0 ⊢
  have HZ : Hid (Z.size = 8) := hZs
  clear hZ hZs
  have HC : Hid (Calls Tryd.prog 54 #[.int .i64 8] W0 fun e w' => ∃ v, e = .returned v ∧ w'.ownsRow W0.heap.size 96 1 v 8 (c64 l) ∧ Below W0.heap.size W0 w') := hcall W0
  clear hcall
  go_wp2_with fail
  refine HC.out.mono ?_
  rintro _ w1 ⟨v, rfl, hown, hbel⟩
  clear HC
  rcases id hown.2 with ⟨_, h0⟩ | ⟨g, cap, cur, rfl, _⟩
  · exact absurd h0 (by decide)
  have k1 : Kept W0 w1 := Kept.below hbel
  have hcells : ∀ j x : Nat, l[j]? = some x → w1.cell? ⟨g, j, none⟩ = some (.int .u64 (x : Int)) := fun j x h => by
    have hc := hown.cells (g := g) rfl j _ (c64_get h)
    rw [addr_zero] at hc
    exact hc
  have hg : w.heap.size + 2 ≤ g := by have h1 := (hown.lt g rfl).1; omega
  replace R0 := R0.kept k1
  replace R1 := R1.kept k1
  replace K0 := K0.trans k1
  have HCE : Hid (∀ j x : Nat, l[j]? = some x → w1.cell? ⟨g, j, none⟩ = some (.int .u64 (x : Int))) := hcells
  clear hcells hown hbel k1 hW0
  go_wp2_with fail
  go_loopw [3] (fun i wr => ∃ k : Nat, k ≤ 8 ∧ i = .int .i64 (k : Int) ∧ Row wr w.heap.size Z 67 ∧ Row wr (w.heap.size + 1) (cw (padTo 8 (S.take k))) 67 ∧ (∀ j x : Nat, l[j]? = some x → wr.cell? ⟨g, j, none⟩ = some (.int .u64 (x : Int))) ∧ Kept w wr) (fun i _ => (8 - intOf i).toNat)
  case atStart => exact ⟨0, by omega, rfl, R0, R1, HCE.out, K0⟩
  case round =>
    clear R0 R1 K0 HCE
    obtain ⟨k, hk, rfl, R0, R1, hce, K0⟩ := hrel
    have HCE : Hid (∀ j x : Nat, l[j]? = some x → wr.cell? ⟨g, j, none⟩ = some (.int .u64 (x : Int))) := hce
    by_cases hlt : k < 8
    · obtain ⟨x, hx⟩ : ∃ x, l[k]? = some x := ⟨_, List.getElem?_eq_getElem (by omega)⟩
      have hc := hce k x hx
      have hSx := HSG.out k x hx
      have HT : Hid (S.take (k + 1) = S.take k ++ [squareN x]) := by show _ = _; rw [List.take_add_one, hSx]; rfl
      have hkl : (S.take k).length = k := by rw [List.length_take]; omega
      have hpl := padTo_length 8 (S.take k) (by omega)
      obtain ⟨o, ho⟩ : ∃ o, wr.cell? ⟨w.heap.size + 1, k, none⟩ = some o := ⟨_, (R1.cell k).trans (cw_get _ _ (by omega))⟩
      have hf : wr.frozen? ⟨w.heap.size + 1, k, none⟩ = false := R1.frozen k
      have HKL : Hid ((S.take k).length = k) := hkl
      have hsq := square_any x
      generalize squareN x = y at HT hsq
      clear hx hSx hpl hkl hce HSG
      go_wp2_with fail
      refine (hsq _).mono ?_
      rintro _ _ ⟨rfl, rfl⟩
      go_wp2_with fail
      refine ⟨⟨k + 1, by omega, by simp, R0.setCellOther (by simp) _, ?_, fun j x h => ?_, K0.setCell (by simp) _⟩, by simp [intOf]; omega⟩
      · rw [HT.out]
        exact pushTo R1 HKL.out (by omega) _
      · rw [World.cell?_setCell_other _ _ _ _ (by simp <;> omega)]
        exact HCE.out j x h
    · obtain rfl : k = 8 := by omega
      rw [show S.take 8 = S by rw [← hSl, List.take_length], padTo_full 8 S hSl] at R1
      clear hce HCE HSG
      go_upto_region 7 with fail
      go_wp2_with (first | refine wpList_load_row (by rfl) 67 _ (by rfl) (w.heap.size + 1) (by rfl) 67 (cw S) (0, 0) _ R1 Tryd.underlying67 rfl (by rw [cw_size, hSl]; exact i23) ?_ | refine wpList_store_row (by rfl) 67 _ _ (by rfl) w.heap.size (cw S) (by rfl) (by rfl) 67 Z R0 (by rw [cw_size, hSl]; exact i23) (by rw [cw_size, hSl]; exact HZ.out) (cw_one _) ?_)
      exact bodyPost_ret (results_cell_row rfl _ _ w.heap.size 67 (cw S) (0, 0) _ rfl (R0.set _) Tryd.underlying67 rfl (by rw [cw_size, hSl]; exact i23)) rfl ⟨by rw [HST.out], K0.setRow (Nat.le_refl _) _⟩

set_option maxHeartbeats 2000000 in
theorem constants_any (w : World) :
    Calls Tryd.prog 35 #[] w fun e w' => e = .returned (.agg (cw roundsN)) ∧ Kept w w' := by
  obtain ⟨S, hS⟩ : ∃ S, (prN 310).map cubeN = S := ⟨_, rfl⟩
  have hSl : S.length = 64 := by rw [← hS, List.length_map, pr310]
  have HST : Hid (S = roundsN) := by rw [← hS]; exact constants_all
  have HSG : Hid (∀ k x : Nat, (prN 310)[k]? = some x → S[k]? = some (cubeN x)) := fun k x h => by rw [← hS, List.getElem?_map, h]; rfl
  obtain ⟨l, hl⟩ : ∃ l, prN 310 = l := ⟨_, rfl⟩
  have hll : l.length = 64 := by rw [← hl, pr310]
  have hcall := primes_any 64 310 pr310 low310 (by decide) (by decide)
  rw [hl] at hcall HSG
  clear hS hl
  go_enter Tryd.func35, Tryd.ntmps35
  go_upto_region 2 with fail
  obtain ⟨Z, hZ⟩ : ∃ Z : Array Value, Z = #[.int .u32 0, .int .u32 0, .int .u32 0, .int .u32 0, .int .u32 0, .int .u32 0, .int .u32 0, .int .u32 0, .int .u32 0, .int .u32 0, .int .u32 0, .int .u32 0, .int .u32 0, .int .u32 0, .int .u32 0, .int .u32 0, .int .u32 0, .int .u32 0, .int .u32 0, .int .u32 0, .int .u32 0, .int .u32 0, .int .u32 0, .int .u32 0, .int .u32 0, .int .u32 0, .int .u32 0, .int .u32 0, .int .u32 0, .int .u32 0, .int .u32 0, .int .u32 0, .int .u32 0, .int .u32 0, .int .u32 0, .int .u32 0, .int .u32 0, .int .u32 0, .int .u32 0, .int .u32 0, .int .u32 0, .int .u32 0, .int .u32 0, .int .u32 0, .int .u32 0, .int .u32 0, .int .u32 0, .int .u32 0, .int .u32 0, .int .u32 0, .int .u32 0, .int .u32 0, .int .u32 0, .int .u32 0, .int .u32 0, .int .u32 0, .int .u32 0, .int .u32 0, .int .u32 0, .int .u32 0, .int .u32 0, .int .u32 0, .int .u32 0, .int .u32 0] := ⟨_, rfl⟩
  rw [← hZ]
  have hZs : Z.size = 64 := by rw [hZ]; rfl
  have R0 : Row ((w.alloc (.cells Z 69)).alloc (.cells Z 69)) w.heap.size Z 69 := (Row.new w _ _).alloc _
  have R1 : Row ((w.alloc (.cells Z 69)).alloc (.cells Z 69)) (w.heap.size + 1) (cw (padTo 64 (S.take 0))) 69 := by
    have h : Z = cw (padTo 64 (S.take 0)) := by rw [hZ]; rfl
    rw [← h]
    exact Row.newAt (by simp) _ _
  have K0 : Kept w ((w.alloc (.cells Z 69)).alloc (.cells Z 69)) := ((Kept.refl w).allocR _).allocR _
  have hW0 : ((w.alloc (.cells Z 69)).alloc (.cells Z 69)).heap.size = w.heap.size + 2 := by simp
  generalize (w.alloc (.cells Z 69)).alloc (.cells Z 69) = W0 at R0 R1 K0 hW0 ⊢
  have HZ : Hid (Z.size = 64) := hZs
  clear hZ hZs
  have HC : Hid (Calls Tryd.prog 54 #[.int .i64 64] W0 fun e w' => ∃ v, e = .returned v ∧ w'.ownsRow W0.heap.size 96 1 v 64 (c64 l) ∧ Below W0.heap.size W0 w') := hcall W0
  clear hcall
  go_wp2_with fail
  refine HC.out.mono ?_
  rintro _ w1 ⟨v, rfl, hown, hbel⟩
  clear HC
  rcases id hown.2 with ⟨_, h0⟩ | ⟨g, cap, cur, rfl, _⟩
  · exact absurd h0 (by decide)
  have k1 : Kept W0 w1 := Kept.below hbel
  have hcells : ∀ j x : Nat, l[j]? = some x → w1.cell? ⟨g, j, none⟩ = some (.int .u64 (x : Int)) := fun j x h => by
    have hc := hown.cells (g := g) rfl j _ (c64_get h)
    rw [addr_zero] at hc
    exact hc
  have hg : w.heap.size + 2 ≤ g := by have h1 := (hown.lt g rfl).1; omega
  replace R0 := R0.kept k1
  replace R1 := R1.kept k1
  replace K0 := K0.trans k1
  have HCE : Hid (∀ j x : Nat, l[j]? = some x → w1.cell? ⟨g, j, none⟩ = some (.int .u64 (x : Int))) := hcells
  clear hcells hown hbel k1 hW0
  go_wp2_with fail
  go_loopw [3] (fun i wr => ∃ k : Nat, k ≤ 64 ∧ i = .int .i64 (k : Int) ∧ Row wr w.heap.size Z 69 ∧ Row wr (w.heap.size + 1) (cw (padTo 64 (S.take k))) 69 ∧ (∀ j x : Nat, l[j]? = some x → wr.cell? ⟨g, j, none⟩ = some (.int .u64 (x : Int))) ∧ Kept w wr) (fun i _ => (64 - intOf i).toNat)
  case atStart => exact ⟨0, by omega, rfl, R0, R1, HCE.out, K0⟩
  case round =>
    clear R0 R1 K0 HCE
    obtain ⟨k, hk, rfl, R0, R1, hce, K0⟩ := hrel
    have HCE : Hid (∀ j x : Nat, l[j]? = some x → wr.cell? ⟨g, j, none⟩ = some (.int .u64 (x : Int))) := hce
    by_cases hlt : k < 64
    · obtain ⟨x, hx⟩ : ∃ x, l[k]? = some x := ⟨_, List.getElem?_eq_getElem (by omega)⟩
      have hc := hce k x hx
      have hSx := HSG.out k x hx
      have HT : Hid (S.take (k + 1) = S.take k ++ [cubeN x]) := by show _ = _; rw [List.take_add_one, hSx]; rfl
      have hkl : (S.take k).length = k := by rw [List.length_take]; omega
      have hpl := padTo_length 64 (S.take k) (by omega)
      obtain ⟨o, ho⟩ : ∃ o, wr.cell? ⟨w.heap.size + 1, k, none⟩ = some o := ⟨_, (R1.cell k).trans (cw_get _ _ (by omega))⟩
      have hf : wr.frozen? ⟨w.heap.size + 1, k, none⟩ = false := R1.frozen k
      have HKL : Hid ((S.take k).length = k) := hkl
      have hsq := cube_any x
      generalize cubeN x = y at HT hsq
      clear hx hSx hpl hkl hce HSG
      go_wp2_with fail
      refine (hsq _).mono ?_
      rintro _ _ ⟨rfl, rfl⟩
      go_wp2_with fail
      refine ⟨⟨k + 1, by omega, by simp, R0.setCellOther (by simp) _, ?_, fun j x h => ?_, K0.setCell (by simp) _⟩, by simp [intOf]; omega⟩
      · rw [HT.out]
        exact pushTo R1 HKL.out (by omega) _
      · rw [World.cell?_setCell_other _ _ _ _ (by simp <;> omega)]
        exact HCE.out j x h
    · obtain rfl : k = 64 := by omega
      rw [show S.take 64 = S by rw [← hSl, List.take_length], padTo_full 64 S hSl] at R1
      clear hce HCE HSG
      go_upto_region 7 with fail
      go_wp2_with (first | refine wpList_load_row (by rfl) 69 _ (by rfl) (w.heap.size + 1) (by rfl) 69 (cw S) (0, 0) _ R1 Tryd.underlying69 rfl (by rw [cw_size, hSl]; exact i40) ?_ | refine wpList_store_row (by rfl) 69 _ _ (by rfl) w.heap.size (cw S) (by rfl) (by rfl) 69 Z R0 (by rw [cw_size, hSl]; exact i40) (by rw [cw_size, hSl]; exact HZ.out) (cw_one _) ?_)
      exact bodyPost_ret (results_cell_row rfl _ _ w.heap.size 69 (cw S) (0, 0) _ rfl (R0.set _) Tryd.underlying69 rfl (by rw [cw_size, hSl]; exact i40)) rfl ⟨by rw [HST.out], K0.setRow (Nat.le_refl _) _⟩

end Go.Proofs.YtjikdbmdaeonlaaDoor.Dg
namespace Go.Proofs.YtjikdbmdaeonlaaDoor.Dg
open Go.RowKit
set_option maxRecDepth 20000

/-- How long a slice is. -/
def lenV : Value → Nat
  | .slice _ n _ => n
  | _ => 0
theorem zeros_step (k : Nat) : cellsL (128 :: List.replicate k 0) ++ [.int .u8 0] = cellsL (128 :: List.replicate (k + 1) 0) := by
  rw [List.replicate_succ', ← List.cons_append, cellsL_append]; rfl
theorem be8_step (l : List UInt8) (v j : Nat) (h : j < 8) (y : Nat) (hy : v / 2 ^ (8 * (7 - j)) % 256 = y) : cellsL (l ++ (be8 v).take j) ++ [.int .u8 (y : Int)] = cellsL (l ++ (be8 v).take (j + 1)) := by
  have hb : (be8 v)[j]? = some (UInt8.ofNat y) := by
    have h8 : j = 0 ∨ j = 1 ∨ j = 2 ∨ j = 3 ∨ j = 4 ∨ j = 5 ∨ j = 6 ∨ j = 7 := by omega
    rcases h8 with rfl | rfl | rfl | rfl | rfl | rfl | rfl | rfl
    all_goals simp at hy; simp [be8, hy]
  rw [List.take_add_one, hb, ← List.append_assoc, cellsL_append (l ++ (be8 v).take j)]
  congr 1
  unfold cellsL
  simp only [Option.toList_some, List.map_cons, List.map_nil]
  rw [byte_of y (by omega)]

set_option maxHeartbeats 1600000 in
theorem refPad_core (a : Int) (n : Nat) (hn : n ≤ 576460752303423488) (hm : (if 0 < a then a else 0) = (n : Int)) (w : World) :
    Calls Tryd.prog 57 #[.int .i64 a] w fun e w' => e = .returned (.string (bs (padL n))) ∧ Kept w w' := by
  obtain ⟨i0, hi0, hz0, hz1, hz2⟩ := info_parts info5
  obtain ⟨S, hS⟩ : ∃ S, padS n = S := ⟨_, rfl⟩
  obtain ⟨v, hv⟩ : ∃ v, 8 * n = v := ⟨_, rfl⟩
  have hS9 := padS_ge n
  have hS72 := padS_le n
  rw [hS] at hS9 hS72
  have HL : Hid (padL n = 128 :: List.replicate (S - 9) 0 ++ be8 v) := by
    show padL n = _
    unfold padL
    rw [hS, Nat.mod_eq_of_lt (by omega), hv]
    rfl
  have HP : Hid ((padL n).length = S) := by show _ = _; rw [padL_length, hS]
  have HT : Hid (∀ k, k ≤ S - 9 → ((n + (k + 1)) % 64 = 56 ↔ k = S - 9)) := by
    show ∀ k, _
    intro k hk
    unfold padS at hS
    split at hS <;> omega
  have hvI : IntKind.u64.wrap ((n : Int) * 8) = (v : Int) := by rw [IntKind.wrap_u64]; omega
  have hvl : v ≤ 4611686018427387904 := by omega
  clear hS hv
  go_enter Tryd.func57, Tryd.ntmps57
  go_upto_region 2 with fail
  clear hm
  go_wp2_with fail
  go_loopw [3] (fun u wr => ∃ k c : Nat, k ≤ S - 9 ∧ k + 1 = c ∧ wr.ownsRow w.heap.size 5 1 u c (cellsL (128 :: List.replicate k 0)) ∧ Below w.heap.size w wr) (fun u _ => S - lenV u)
  case atStart => exact ⟨0, 1, by omega, rfl, World.ownsRow_lit w #[.int .u8 128] 1 (Nat.le_refl _) (by decide) (by simp), (Below.refl _ _).alloc (Nat.le_refl _) _⟩
  case round =>
    obtain ⟨k, c, hk, hc, hown, hb⟩ := hrel
    have hB := hb.size
    obtain ⟨g, cap, rfl, _, _⟩ := hown.form (by omega)
    have hT := HT.out k hk
    by_cases hlt : k < S - 9
    · have hd1 : (((n : Int) + (c : Int)) % 64 != 56) = true := by rw [bne_iff_ne]; omega
      have HZ : Hid (_ = _) := zeros_step k
      clear hT HT
      go_wp2_with (at_builtin; refine wpList_append_lies _ rfl _ _ 60 rfl w.heap.size 5 i0 (.int .u8 0) 1 1 Tryd.underlying60 hi0 hz0 hz1 hz2 rfl (by decide) _ _ _ rfl (hown.alloc _) ⟨wr.heap.size, 0, none⟩ 1 1 [.int .u8 0] rfl rfl (World.news_of_block (cs := #[.int .u8 0]) (t := 5) (fr := (0, 0)) (heap_alloc_new wr _)) (by simp [Value.oneCell']) (by decide) (by unfold maxLen; omega) (by omega) (by simp; omega) (wr.heap.size + 1) (by simp) ?_)
      intro gg cap2 w2 hown1 hgrow _ _
      rw [HZ.out] at hown1
      go_wp2_with fail
      exact ⟨⟨k + 1, c + 1, by omega, by omega, hown1, grow_plain hown hb hgrow⟩, by simp [lenV]; omega⟩
    · obtain rfl : k = S - 9 := by omega
      have hd1 : (((n : Int) + (c : Int)) % 64 != 56) = false := by rw [bne_eq_false_iff_eq]; omega
      obtain ⟨zl, hzl⟩ : ∃ zl, (128 : UInt8) :: List.replicate (S - 9) 0 = zl := ⟨_, rfl⟩
      rw [hzl] at hown HL
      clear hT HT hzl
      go_wp2_with fail
      go_loopw [3, 5] (fun u i wr => ∃ j m : Nat, j ≤ 8 ∧ S - 8 + j = m ∧ i = .int .i64 (7 - (j : Int)) ∧ wr.ownsRow w.heap.size 5 1 u m (cellsL (zl ++ (be8 v).take j)) ∧ Below w.heap.size w wr) (fun _ i _ => (1 + intOf i).toNat)
      case atStart => exact ⟨0, c, by omega, by omega, rfl, by rw [List.take_zero, List.append_nil]; exact hown, hb⟩
      case round =>
        clear hown hb hB
        obtain ⟨j, m, hj, hjm, rfl, hown, hb⟩ := hrel
        have hB := hb.size
        by_cases hlt2 : j < 8
        · obtain ⟨d, hd⟩ : ∃ d, 7 - j = d := ⟨_, rfl⟩
          have hdI : (7 : Int) - (j : Int) = (d : Int) := by omega
          obtain ⟨q, hq⟩ : ∃ q, 8 * d = q := ⟨_, rfl⟩
          have hqI : (8 : Int) * (d : Int) = (q : Int) := by omega
          obtain ⟨y, hy⟩ : ∃ y, v / 2 ^ (8 * (7 - j)) % 256 = y := ⟨_, rfl⟩
          have HS : Hid (_ = _) := be8_step zl v j hlt2 y hy
          have hyI : (v : Int) / 2 ^ q % 256 = (y : Int) := by rw [← hy, hd, hq]; simp
          have hq63 : q ≤ 56 := by omega
          have hm72 : m ≤ 72 := by omega
          clear hy hd hq
          go_wp2_with (at_builtin; refine wpList_append_lies _ rfl _ _ 60 rfl w.heap.size 5 i0 (.int .u8 0) 1 1 Tryd.underlying60 hi0 hz0 hz1 hz2 rfl (by decide) _ _ _ rfl (hown.alloc _) ⟨wr.heap.size, 0, none⟩ 1 1 [.int .u8 (y : Int)] rfl rfl (World.news_of_block (cs := #[.int .u8 (y : Int)]) (t := 5) (fr := (0, 0)) (heap_alloc_new wr _)) (by simp [Value.oneCell']) (by decide) (by unfold maxLen; omega) (by omega) (by simp; omega) (wr.heap.size + 1) (by simp) ?_)
          intro gg cap2 w2 hown1 hgrow _ _
          rw [HS.out] at hown1
          go_wp2_with fail
          exact ⟨⟨j + 1, m + 1, by omega, by omega, by go_num, hown1, grow_plain hown hb hgrow⟩, by simp [intOf]; omega⟩
        · obtain rfl : j = 8 := by omega
          rw [show (be8 v).take 8 = be8 v from rfl, ← HL.out] at hown
          have hcv := conv_own (by rw [HP.out]; omega) hown
          clear hown
          go_wp2_with fail
          go_ret
          exact ⟨rfl, Kept.below hb⟩

theorem refPad_any (n : Nat) (hn : n ≤ 576460752303423488) (w : World) :
    Calls Tryd.prog 57 #[.int .i64 (n : Int)] w fun e w' => e = .returned (.string (bs (padL n))) ∧ Kept w w' :=
  refPad_core (n : Int) n hn (by split <;> omega) w
theorem refPad_neg (a : Int) (ha : a < 0) (w : World) :
    Calls Tryd.prog 57 #[.int .i64 a] w fun e w' => e = .returned (.string (bs (padL 0))) ∧ Kept w w' :=
  refPad_core a 0 (by omega) (by rw [if_neg (by omega)]; rfl) w

end Go.Proofs.YtjikdbmdaeonlaaDoor.Dg
namespace Go.Proofs.YtjikdbmdaeonlaaDoor.Dg
open Go.RowKit
set_option maxRecDepth 20000

/-- A row of bytes that is filled one by one. -/
theorem cb_push {w : World} {g k : Nat} {t : TypeId} {l : List Nat} (R : Row w g (cb (pad64 l)) t) (hk : l.length = k) (h : k < 64) (x : Nat) : Row (w.setCell ⟨g, k, none⟩ (.int .u8 (x : Int))) g (cb (pad64 (l ++ [x]))) t := by
  subst hk
  have h1 := R.setCell l.length (.int .u8 (x : Int))
  rw [cb_set, pad64_set _ _ h] at h1
  exact h1
theorem nats_step (l : List UInt8) (k : Nat) (c : UInt8) (h : l[k]? = some c) : nats (l.take (k + 1)) = nats (l.take k) ++ [c.toNat] := by
  rw [List.take_add_one, h, nats_append]; rfl
theorem block_of (t : ByteArray) (q j : Nat) (h : q + j < t.size) : ((L t).drop q)[j]? = some t[q + j] := by
  rw [List.getElem?_drop]; exact L_get t (q + j) h
theorem putL_at (x j : Nat) (h : j < 4) : (putL x)[j]? = some (UInt8.ofNat (x / 2 ^ (24 - 8 * j) % 256)) := by
  have h8 : j = 0 ∨ j = 1 ∨ j = 2 ∨ j = 3 := by omega
  rcases h8 with rfl | rfl | rfl | rfl
  all_goals simp [putL]
theorem bytesL_at (l : List Nat) : ∀ (m j : Nat), m < l.length → j < 4 → (bytesL l)[4 * m + j]? = some (UInt8.ofNat (l.getD m 0 / 2 ^ (24 - 8 * j) % 256)) := by
  induction l with
  | nil => intro m j h; simp at h
  | cons v l ih =>
    intro m j hm hj
    show (putL v ++ bytesL l)[4 * m + j]? = _
    cases m with
    | zero => rw [List.getElem?_append_left (by show 4 * 0 + j < 4; omega), show 4 * 0 + j = j by omega, putL_at v j hj]; rfl
    | succ m =>
      rw [List.getElem?_append_right (by show 4 ≤ 4 * (m + 1) + j; omega), show (putL v).length = 4 from rfl, show 4 * (m + 1) + j - 4 = 4 * m + j by omega, ih m j (by simpa using hm) hj]
      rfl

theorem at_bytes {s : ByteArray} {l : List UInt8} (h : s = bs l) {k : Nat} (hk : k < s.size) {c : UInt8} (hc : l[k]? = some c) : s[k] = c := by
  subst h
  have h2 := L_get (bs l) k hk
  rw [L_bs, hc] at h2
  exact (Option.some.inj h2).symm

end Go.Proofs.YtjikdbmdaeonlaaDoor.Dg
