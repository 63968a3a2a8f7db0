/-
  What DigestTells returns: true, for every text and every words, block and length, where the tables lie as their initialisers lay them.
-/
import Derived.Test.YtemhgehelblcoaaDoorRefOf
import Derived.Test.YtemhgehelblcoaaDoorEq
import Derived.Deep.MidRow
namespace Go.Proofs.YtemhgehelblcoaaDoor
open Go.RowKit

/-- What is asked, as cells. -/
def askedL (h : W8) (b : List Nat) (n : Int) : List Value := (h.list.map fun (x : Nat) => Value.int .u32 (x : Int)) ++ ((b.map fun (x : Nat) => Value.int .u8 (x : Int)) ++ [.int .i64 n])
theorem pads_same (m : Int) (h1 : m ≤ 576460752303423488) : ∃ pv, (∀ w : World, Calls Tryd.prog 12 #[.int .i64 m] w fun e w' => e = .returned (.string pv) ∧ Kept w w') ∧ (∀ w : World, Calls Tryd.prog 13 #[.int .i64 m] w fun e w' => e = .returned (.string pv) ∧ Kept w w') := by
  by_cases h : m < 0
  · exact ⟨bs (padL 0), pad_neg m h, refPad_neg m h⟩
  · obtain ⟨k, rfl⟩ : ∃ k : Nat, m = (k : Int) := ⟨m.toNat, by omega⟩
    exact ⟨bs (padL k), pad_any k (by omega), refPad_any k (by omega)⟩
/-- A range of cells read inside a region that draws its order. -/
theorem wpQuiet_load_mid {P : Program} {ops : Array Oper} {Q : Act → Prop} {a : Act} {o : Oper} {rest : List Oper} {W : World} (hw : Region.wanted o (yielded ops a.tmps) = true) (ty : TypeId) (x : Operand) (ho : o.op = .load ty x)
    (g off : Nat) (hx : a.eval x = .pointer (some ⟨g, off, none⟩)) (cs : List Value) (hr : ∀ p : KeptW W, p.v.rangeAt g off cs) (d : TypeDesc)
    (hu : P.underlying ty = some d) (hd : d.isRow = true) (hi : (P.info? ty).map (·.size) = some cs.length)
    (h : wpQuiet P ops (fun w' => ∃ p : KeptW W, w' = p.v) Q rest (a.put o.dst (.agg cs.toArray))) : wpQuiet P ops (fun w' => ∃ p : KeptW W, w' = p.v) Q (o :: rest) a :=
  BigFrame.wpQuiet_want hw fun K hK => ⟨.agg cs.toArray, fun w ⟨p, e⟩ => by
    subst e
    have h1 := run_loadVar_mid p.v g off ty cs d (hr p) hu hd hi
    unfold Oper.quietAt execOp
    simp only [ho, hx, Instr.loadAt, Instr.sureAddr, Sem.run_bind, Sem.run_pure, Result.andThen_ok, h1]
    exact ⟨rfl, rfl⟩, hK _ h⟩

set_option maxHeartbeats 2000000 in
theorem tells_small (s : ByteArray) (hs : s.size ≤ 300) (hv : W8) (b : List Nat) (hb : b.length = 64) (h256 : ∀ j, b.getD j 0 < 256) (n : Int) (w : World) (hT : Tab w) :
    Calls Tryd.prog 3 #[.string s, .agg (askedL hv b n).toArray] w fun e w' => e = .returned (.bool true) ∧ w.keptBut w' (fun _ => False) := by
  obtain ⟨m, hm⟩ : ∃ m : Int, (if (-4611686018427387904 : Int) < (if 576460752303423488 < n then 576460752303423488 else n) then (if 576460752303423488 < n then 576460752303423488 else n) else -4611686018427387904) = m := ⟨_, rfl⟩
  have hml : m ≤ 576460752303423488 := by rw [← hm]; split <;> split <;> omega
  obtain ⟨pv, hp1, hp2⟩ := pads_same m hml
  obtain ⟨ac, hac⟩ : ∃ ac, (askedL hv b n).toArray = ac := ⟨_, rfl⟩
  have hal : (askedL hv b n).length = 73 := by unfold askedL; simp [hb, list_length]
  have han : ac[72]? = some (.int .i64 n) := by
    rw [← hac, List.getElem?_toArray]
    unfold askedL
    rw [List.getElem?_append_right (by simp [list_length]), List.getElem?_append_right (by simp [list_length, hb])]
    simp [list_length, hb]
  have hah : ∀ j, j < 8 → ac[j]? = some (.int .u32 ((hv.list.getD j 0 : Nat) : Int)) := fun j hj => by
    rw [← hac, List.getElem?_toArray]
    unfold askedL
    rw [List.getElem?_append_left (by simp [list_length]; omega), List.getElem?_map, List.getElem?_eq_getElem (by rw [list_length]; exact hj), List.getD_eq_getElem?_getD, List.getElem?_eq_getElem (by rw [list_length]; exact hj)]
    rfl
  have hab : ∀ (j : Nat) v, (b.map fun (x : Nat) => Value.int .u8 (x : Int))[j]? = some v → ac[8 + j]? = some v := fun j v hv => by
    have hj : j < (b.map fun (x : Nat) => Value.int .u8 (x : Int)).length := (List.getElem?_eq_some_iff.1 hv).1
    rw [← hac, List.getElem?_toArray]
    unfold askedL
    rw [List.getElem?_append_right (by simp [list_length]), List.length_map, list_length, show 8 + j - 8 = j by omega, List.getElem?_append_left hj, hv]
  rw [hac]
  have R0 := Row.new w ac 26
  have K0 : Kept w (w.alloc (.cells ac 26)) := (Kept.refl w).allocR _
  have hc72 : (w.alloc (.cells ac 26)).cell? ⟨w.heap.size, 72, none⟩ = some (.int .i64 n) := by rw [R0.cell, han]
  obtain ⟨r, hr⟩ : ∃ r, blockN hv b = r := ⟨_, rfl⟩
  have hbc : (b.map fun (x : Nat) => Value.int .u8 (x : Int)).toArray = cb b := rfl
  obtain ⟨bl, hbl⟩ : ∃ bl, (b.map fun (x : Nat) => Value.int .u8 (x : Int)) = bl := ⟨_, rfl⟩
  have hbll : bl.length = 64 := by rw [← hbl, List.length_map, hb]
  have hb1 : ∀ w : World, Tab w → Calls Tryd.prog 14 #[.agg #[.int .u32 (hv.a : Int), .int .u32 (hv.b : Int), .int .u32 (hv.c : Int), .int .u32 (hv.d : Int), .int .u32 (hv.e : Int), .int .u32 (hv.f : Int), .int .u32 (hv.g : Int), .int .u32 (hv.h : Int)], .agg bl.toArray] w fun e w' => e = .returned (.agg #[.int .u32 (r.a : Int), .int .u32 (r.b : Int), .int .u32 (r.c : Int), .int .u32 (r.d : Int), .int .u32 (r.e : Int), .int .u32 (r.f : Int), .int .u32 (r.g : Int), .int .u32 (r.h : Int)]) ∧ Kept w w' := by
    rw [← hbl]
    have h1 := block_any hv b hb h256
    rw [hr] at h1
    exact h1
  have hb2 : ∀ w : World, Calls Tryd.prog 15 #[.agg #[.int .u32 (hv.a : Int), .int .u32 (hv.b : Int), .int .u32 (hv.c : Int), .int .u32 (hv.d : Int), .int .u32 (hv.e : Int), .int .u32 (hv.f : Int), .int .u32 (hv.g : Int), .int .u32 (hv.h : Int)], .agg bl.toArray] w fun e w' => e = .returned (.agg #[.int .u32 (r.a : Int), .int .u32 (r.b : Int), .int .u32 (r.c : Int), .int .u32 (r.d : Int), .int .u32 (r.e : Int), .int .u32 (r.f : Int), .int .u32 (r.g : Int), .int .u32 (r.h : Int)]) ∧ Kept w w' := by
    rw [← hbl]
    have h1 := refBlock_any hv b hb h256
    rw [hr] at h1
    exact h1
  have hof := of_any s (by omega)
  have href := refOf_any s hs
  generalize bs (ofL (L s)) = dg at hof href
  have hh1 := hex_any s (by omega)
  have hh2 := refHex_any s (by omega)
  generalize bs (hexL (L s)) = hx at hh1 hh2
  rw [hbl] at hab
  have HAH : Hid (∀ j, j < 8 → ac[j]? = some (.int .u32 ((hv.list.getD j 0 : Nat) : Int))) := hah
  have HAB : Hid (∀ (j : Nat) v, bl[j]? = some v → ac[8 + j]? = some v) := hab
  have HOF : Hid (∀ w : World, Tab w → Calls Tryd.prog 8 #[.string s] w fun e w' => e = .returned (.string dg) ∧ Kept w w') := hof
  have HB1 : Hid (∀ w : World, Tab w → Calls Tryd.prog 14 #[.agg #[.int .u32 (hv.a : Int), .int .u32 (hv.b : Int), .int .u32 (hv.c : Int), .int .u32 (hv.d : Int), .int .u32 (hv.e : Int), .int .u32 (hv.f : Int), .int .u32 (hv.g : Int), .int .u32 (hv.h : Int)], .agg bl.toArray] w fun e w' => e = .returned (.agg #[.int .u32 (r.a : Int), .int .u32 (r.b : Int), .int .u32 (r.c : Int), .int .u32 (r.d : Int), .int .u32 (r.e : Int), .int .u32 (r.f : Int), .int .u32 (r.g : Int), .int .u32 (r.h : Int)]) ∧ Kept w w') := hb1
  clear hah hab hof hb1 hac hal han hbc hbl hb h256 hr
  go_enter Tryd.func3, Tryd.ntmps3
  go_wp2_with fail
  all_goals
    clear hc72
    generalize w.alloc (.cells ac 26) = W at R0 K0 ⊢
    generalize w.heap.size = G at R0 ⊢
    have hTw := hT.kept K0
    have hne : Nonempty (KeptW W) := ⟨⟨W, Kept.refl W⟩⟩
    have d0 : ∀ p : KeptW W, p.v.cell? ⟨G, 0, none⟩ = some (.int .u32 (hv.a : Int)) := fun p => by rw [p.h.cell R0.lt, R0.cell, HAH.out 0 (by decide)]; rfl
    have d1 : ∀ p : KeptW W, p.v.cell? ⟨G, 1, none⟩ = some (.int .u32 (hv.b : Int)) := fun p => by rw [p.h.cell R0.lt, R0.cell, HAH.out 1 (by decide)]; rfl
    have d2 : ∀ p : KeptW W, p.v.cell? ⟨G, 2, none⟩ = some (.int .u32 (hv.c : Int)) := fun p => by rw [p.h.cell R0.lt, R0.cell, HAH.out 2 (by decide)]; rfl
    have d3 : ∀ p : KeptW W, p.v.cell? ⟨G, 3, none⟩ = some (.int .u32 (hv.d : Int)) := fun p => by rw [p.h.cell R0.lt, R0.cell, HAH.out 3 (by decide)]; rfl
    have d4 : ∀ p : KeptW W, p.v.cell? ⟨G, 4, none⟩ = some (.int .u32 (hv.e : Int)) := fun p => by rw [p.h.cell R0.lt, R0.cell, HAH.out 4 (by decide)]; rfl
    have d5 : ∀ p : KeptW W, p.v.cell? ⟨G, 5, none⟩ = some (.int .u32 (hv.f : Int)) := fun p => by rw [p.h.cell R0.lt, R0.cell, HAH.out 5 (by decide)]; rfl
    have d6 : ∀ p : KeptW W, p.v.cell? ⟨G, 6, none⟩ = some (.int .u32 (hv.g : Int)) := fun p => by rw [p.h.cell R0.lt, R0.cell, HAH.out 6 (by decide)]; rfl
    have d7 : ∀ p : KeptW W, p.v.cell? ⟨G, 7, none⟩ = some (.int .u32 (hv.h : Int)) := fun p => by rw [p.h.cell R0.lt, R0.cell, HAH.out 7 (by decide)]; rfl
    have hrg : ∀ p : KeptW W, p.v.rangeAt G 8 bl := fun p j v hv => by rw [p.h.cell R0.lt, R0.cell, HAB.out j v hv]
    have heq := eq_words
    have hof := HOF.out
    have hb1 := HB1.out
    clear R0 HAH HAB HOF HB1 hm
    refine region_kept W (Kept.refl W) (by kernel_rfl) (by kernel_rfl) ?_
    iterate 23 (go_big_quiet_step (first
      | (go_at_call 8; exact Calls.keptw (hof _ (hTw.kept (KeptW.h _))))
      | (go_at_call 9; exact Calls.keptw (href _))
      | (go_at_call 10; exact Calls.keptw (hh1 _))
      | (go_at_call 11; exact Calls.keptw (hh2 _))
      | (go_at_call 12; exact Calls.keptw (hp1 _))
      | (go_at_call 13; exact Calls.keptw (hp2 _))
      | (go_at_call 14; exact Calls.keptw (hb1 _ (hTw.kept (KeptW.h _))))
      | (go_at_call 15; exact Calls.keptw (hb2 _))
      | (go_at_call 7; exact Calls.keptw (wakes_any _ (hTw.kept (KeptW.h _))))))
    refine wpQuiet_load_mid (by rfl) 24 _ (by rfl) G 8 (by rfl) bl hrg _ Tryd.underlying24 rfl (by rw [hbll]; exact i24) ?_
    simp only [Act.put, List.setIfInBounds_toArray, List.set_cons_zero, List.set_cons_succ]
    iterate 4 (go_big_quiet_step (first
      | (go_at_call 8; exact Calls.keptw (hof _ (hTw.kept (KeptW.h _))))
      | (go_at_call 9; exact Calls.keptw (href _))
      | (go_at_call 10; exact Calls.keptw (hh1 _))
      | (go_at_call 11; exact Calls.keptw (hh2 _))
      | (go_at_call 12; exact Calls.keptw (hp1 _))
      | (go_at_call 13; exact Calls.keptw (hp2 _))
      | (go_at_call 14; exact Calls.keptw (hb1 _ (hTw.kept (KeptW.h _))))
      | (go_at_call 15; exact Calls.keptw (hb2 _))
      | (go_at_call 7; exact Calls.keptw (wakes_any _ (hTw.kept (KeptW.h _))))))
    refine wpQuiet_load_mid (by rfl) 24 _ (by rfl) G 8 (by rfl) bl hrg _ Tryd.underlying24 rfl (by rw [hbll]; exact i24) ?_
    simp only [Act.put, List.setIfInBounds_toArray, List.set_cons_zero, List.set_cons_succ]
    iterate 7 (go_big_quiet_step (first
      | (go_at_call 8; exact Calls.keptw (hof _ (hTw.kept (KeptW.h _))))
      | (go_at_call 9; exact Calls.keptw (href _))
      | (go_at_call 10; exact Calls.keptw (hh1 _))
      | (go_at_call 11; exact Calls.keptw (hh2 _))
      | (go_at_call 12; exact Calls.keptw (hp1 _))
      | (go_at_call 13; exact Calls.keptw (hp2 _))
      | (go_at_call 14; exact Calls.keptw (hb1 _ (hTw.kept (KeptW.h _))))
      | (go_at_call 15; exact Calls.keptw (hb2 _))
      | (go_at_call 7; exact Calls.keptw (wakes_any _ (hTw.kept (KeptW.h _))))))
    refine wpQuiet_nil ?_
    rintro w5 ⟨⟨_, k5⟩, rfl⟩
    go_wp2_with fail
    go_ret
    exact ⟨rfl, K0.trans k5⟩

theorem tells_walk (s : ByteArray) (hv : W8) (b : List Nat) (hb : b.length = 64) (h256 : ∀ j, b.getD j 0 < 256) (n : Int) (w : World) (hT : Tab w) :
    Calls Tryd.prog 3 #[.string s, .agg (askedL hv b n).toArray] w fun e w' => e = .returned (.bool true) ∧ w.keptBut w' (fun _ => False) := by
  by_cases hs : s.size ≤ 300
  · exact tells_small s hs hv b hb h256 n w hT
  · generalize (askedL hv b n).toArray = ac
    have K0 : Kept w (w.alloc (.cells ac 26)) := (Kept.refl w).allocR _
    go_enter Tryd.func3, Tryd.ntmps3
    go_wp2_with fail
    refine (wakes_any _ (hT.kept K0)).mono ?_
    rintro _ w2 ⟨rfl, k2⟩
    go_wp2_with fail
    go_ret
    exact ⟨rfl, K0.trans k2⟩

end Go.Proofs.YtemhgehelblcoaaDoor
