/-
  What a frame's text is: its bytes, field by field.
-/
import Derived.Test.YtlbnikkpfhclgaaDoorOut
namespace Go.Proofs.YtlbnikkpfhclgaaDoor
open Go.RowKit

theorem byte_letter (m : Nat) (h : m < 256) : ∃ y : UInt8, UInt8.ofNat m = y ∧ m = y.toNat := ⟨_, rfl, (byte_of m h).symm⟩

theorem wpList_append_new {w0 W : World} {cs : Array Value} {v : Value} {l : List UInt8} {ops : Array Oper} {rest : List Oper} {o : Oper} {a : Act} {Q : Exit → Act → World → Prop} (H : Buf w0 cs W v l) (hgd : o.guard = none) (s x : Operand)
    (ho : o.op = .call { callee := .builtin .append, args := #[s, x], argTypes := #[39, 39] }) (hs : a.eval s = v) (m : List UInt8) (n : Nat) (hn : m.length = n) (cells : Array Value) (hx : a.eval x = .slice (some ⟨W.heap.size, 0, none⟩) n n)
    (hm : 0 < n) (hl : l.length + n ≤ 1000) (hc : cells = (cellsL m).toArray)
    (h : ∀ v' W', Buf w0 cs W' v' (l ++ m) → wpList Tryd.prog ops Q rest (a.put o.dst v') W') : wpList Tryd.prog ops Q (o :: rest) a (W.alloc (.cells cells 5)) := by
  have R := Row.new W cells 5
  refine wpList_append_buf (H.after ((New.refl W).alloc _)) hgd s x ho hs ⟨W.heap.size, 0, none⟩ n m n hn hx (fun j b hb => ?_) hm hl h
  rw [Addr.add_mid, Nat.zero_add, R.cell, hc, List.getElem?_toArray]
  exact cellsL_get hb

set_option maxRecDepth 20000 in
set_option maxHeartbeats 2000000 in
theorem text_any (f : Fr) (hf : f.Ok) (w : World) :
    Calls Tryd.prog 14 #[.agg (frL f).toArray] w fun e w' => e = .returned (.string (bs f.text)) ∧ New w w' := by
  obtain ⟨k, n, g, s, p⟩ := f
  obtain ⟨hk, hn, hg, hs, hp⟩ := hf
  simp only at hk hn hg hs hp
  obtain ⟨y0, e0, v0⟩ := byte_letter (k % 256) (by omega)
  obtain ⟨y1, e1, v1⟩ := byte_letter (n / 256 % 256) (by omega)
  obtain ⟨y2, e2, v2⟩ := byte_letter (n % 256) (by omega)
  obtain ⟨y3, e3, v3⟩ := byte_letter (g / 16777216 % 256) (by omega)
  obtain ⟨y4, e4, v4⟩ := byte_letter (g / 65536 % 256) (by omega)
  obtain ⟨y5, e5, v5⟩ := byte_letter (g / 256 % 256) (by omega)
  obtain ⟨y6, e6, v6⟩ := byte_letter (g % 256) (by omega)
  obtain ⟨y7, e7, v7⟩ := byte_letter (s / 256 % 256) (by omega)
  obtain ⟨y8, e8, v8⟩ := byte_letter (s % 256) (by omega)
  have HT : Hid ((Fr.mk k n g s p).text = (([y0] ++ [y1, y2]) ++ [y3, y4, y5, y6]) ++ [y7, y8] ++ p) := by
    show _ = _
    rw [← e0, ← e1, ← e2, ← e3, ← e4, ← e5, ← e6, ← e7, ← e8]
    rfl
  have R0 := Row.new w (frL ⟨k, n, g, s, p⟩).toArray 46
  have HPay : Hid (∀ (w' : World) (j : Nat) c, Row w' w.heap.size (frL ⟨k, n, g, s, p⟩).toArray 46 → p[j]? = some c → w'.cell? (Addr.add ⟨w.heap.size, 4, none⟩ j) = some (.int .u8 (c.toNat : Int))) := fun w' j c R hj => frL_pay (f := ⟨k, n, g, s, p⟩) R j hj
  have c0 : (frL ⟨k, n, g, s, p⟩).toArray[0]? = some (.int .u8 (k : Int)) := rfl
  have c1 : (frL ⟨k, n, g, s, p⟩).toArray[1]? = some (.int .u16 (n : Int)) := rfl
  have c2 : (frL ⟨k, n, g, s, p⟩).toArray[2]? = some (.int .u32 (g : Int)) := rfl
  have c3 : (frL ⟨k, n, g, s, p⟩).toArray[3]? = some (.int .u16 (s : Int)) := rfl
  generalize (frL ⟨k, n, g, s, p⟩).toArray = cs at *
  obtain rfl : k = y0.toNat := by omega
  have d1 : (n : Int) / 256 = (y1.toNat : Int) := by omega
  have d2 : (n : Int) % 256 = (y2.toNat : Int) := by omega
  have d3 : (g : Int) / 16777216 = (y3.toNat : Int) := by omega
  have d4 : (g : Int) / 65536 % 256 = (y4.toNat : Int) := by omega
  have d5 : (g : Int) / 256 % 256 = (y5.toNat : Int) := by omega
  have d6 : (g : Int) % 256 = (y6.toNat : Int) := by omega
  have d7 : (s : Int) / 256 = (y7.toNat : Int) := by omega
  have d8 : (s : Int) % 256 = (y8.toNat : Int) := by omega
  have D : Hid ((n : Int) / 256 = (y1.toNat : Int) ∧ (n : Int) % 256 = (y2.toNat : Int) ∧ (g : Int) / 16777216 = (y3.toNat : Int) ∧ (g : Int) / 65536 % 256 = (y4.toNat : Int) ∧ (g : Int) / 256 % 256 = (y5.toNat : Int) ∧ (g : Int) % 256 = (y6.toNat : Int) ∧ (s : Int) / 256 = (y7.toNat : Int) ∧ (s : Int) % 256 = (y8.toNat : Int)) := ⟨d1, d2, d3, d4, d5, d6, d7, d8⟩
  clear d1 d2 d3 d4 d5 d6 d7 d8 v0 v1 v2 v3 v4 v5 v6 v7 v8
  clear R0 e0 e1 e2 e3 e4 e5 e6 e7 e8
  obtain ⟨i0, hi0, hz0, hz1, hz2⟩ := info_parts info5
  have hmk : ∀ W : World, w.heap.size ≤ W.heap.size → Row W w.heap.size cs 46 → New w W → ∃ v W', Sem.run Tryd.prog (Instr.makeSlice 39 (.int .i64 0) (.int .i64 252)) W = .ok v W' ∧ Buf w cs W' v [] := fun W hW R N => by
    obtain ⟨w1, hmk, r1, r2⟩ := run_make_own (P := Tryd.prog) W w.heap.size 39 5 i0 _ 1 Tryd.underlying39 hi0 hz0 hz1 .i64 .i64 252 (by rw [hz2]; omega) (by unfold maxLen; omega) hW
    have lt := R.lt
    exact ⟨_, w1, hmk, r1, by simp only [Value.ownBlock, ne_eq, Option.some.injEq]; omega, R.of (r2.block _ lt (by simp)), N.grown r2 (fun _ h => by cases h)⟩
  have HM : Hid (∀ W : World, w.heap.size ≤ W.heap.size → Row W w.heap.size cs 46 → New w W → ∃ v W', Sem.run Tryd.prog (Instr.makeSlice 39 (.int .i64 0) (.int .i64 252)) W = .ok v W' ∧ Buf w cs W' v []) := hmk
  clear hmk hi0 hz0 hz1 hz2
  have T1 : Hid ((#[.int .u8 ((n : Int) / 256), .int .u8 ((n : Int) % 256)] : Array Value) = (cellsL [y1, y2]).toArray) := by show _ = _; rw [D.out.1, D.out.2.1]; rfl
  have T2 : Hid ((#[.int .u8 ((g : Int) / 16777216), .int .u8 ((g : Int) / 65536 % 256), .int .u8 ((g : Int) / 256 % 256), .int .u8 ((g : Int) % 256)] : Array Value) = (cellsL [y3, y4, y5, y6]).toArray) := by show _ = _; rw [D.out.2.2.1, D.out.2.2.2.1, D.out.2.2.2.2.1, D.out.2.2.2.2.2.1]; rfl
  have T3 : Hid ((#[.int .u8 ((s : Int) / 256), .int .u8 ((s : Int) % 256)] : Array Value) = (cellsL [y7, y8]).toArray) := by show _ = _; rw [D.out.2.2.2.2.2.2.1, D.out.2.2.2.2.2.2.2]; rfl
  go_enter Tryd.func14, Tryd.ntmps14
  go_wp2_with (first
    | (refine wpList_box_at (by rfl) 1 (by rfl) 46 _ (by rfl) cs (by rfl) ?_; intro W1 R1 N1; obtain ⟨v, W2, hm, B2⟩ := HM.out W1 N1.size R1 N1; have a0 := B2.row.has 0 c0)
    | (refine wpList_append_new B2 (by rfl) (.tmp 5) (.tmp 8) (by rfl) (by rfl) [y0] 1 rfl _ (by rfl) (by decide) (by decide) (by rfl) ?_; intro v3 W3 B3; have a1 := B3.row.has 1 c1)
    | (refine wpList_append_new B3 (by rfl) (.tmp 10) (.tmp 18) (by rfl) (by rfl) [y1, y2] 2 rfl _ (by rfl) (by decide) (by simp) T1.out ?_; intro v4 W4 B4; have a2 := B4.row.has 2 c2)
    | (refine wpList_append_new B4 (by rfl) (.tmp 20) (.tmp 36) (by rfl) (by rfl) [y3, y4, y5, y6] 4 rfl _ (by rfl) (by decide) (by simp) T2.out ?_; intro v5 W5 B5; have a3 := B5.row.has 3 c3)
    | (refine wpList_append_new B5 (by rfl) (.tmp 38) (.tmp 46) (by rfl) (by rfl) [y7, y8] 2 rfl _ (by rfl) (by decide) (by simp) T3.out ?_; intro v6 W6 B6)
    | (refine wpList_append_buf B6 (by rfl) (.tmp 48) (.tmp 50) (by rfl) (by rfl) ⟨w.heap.size, 4, none⟩ 243 p 243 hp (by rfl) (fun j c hj => HPay.out W6 j c B6.row hj) (by decide) (by simp) ?_; intro v7 W7 B7; have hcv := conv_own rfl B7.own))
  go_ret
  exact ⟨by rw [HT.out]; rfl, B7.new⟩

end Go.Proofs.YtlbnikkpfhclgaaDoor
