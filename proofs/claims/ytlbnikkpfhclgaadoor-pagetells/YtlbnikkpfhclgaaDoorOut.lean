/-
  What a frame's own functions tell: the page that it holds; its bytes.
-/
import Derived.Test.YtlbnikkpfhclgaaDoorIn
import Derived.Deep.AppendLies
namespace Go.Proofs.YtlbnikkpfhclgaaDoor
open Go.RowKit

theorem wpList_min {P : Program} {w : World} {ops : Array Oper} {rest : List Oper} {o : Oper} {a : Act} {Q : Exit → Act → World → Prop} (hgd : o.guard = none) (s t : Operand) (ho : o.op = .call { callee := .builtin .min, args := #[s, t], argTypes := #[3, 3] }) (x y k : Int) (hx : a.eval s = .int .i64 x) (hy : a.eval t = .int .i64 y)
    (hk : (if y < x then y else x) = k) (h : wpList P ops Q rest (a.put o.dst (.int .i64 k)) w) : wpList P ops Q (o :: rest) a w := by
  refine wpList_run hgd _ w ?_ h
  unfold execOp
  simp only [ho, resolve, invoke, builtin, Sem.run_bind, Sem.run_pure, Result.andThen_ok, List.map_toArray, List.map_cons, List.map_nil, hx, hy, run_min_int2, hk]
theorem built23 (k g : Int) (s : ByteArray) : Tryd.prog.built 23 [(0, .int .i64 k), (1, .int .i64 g), (2, .string s)] = some #[.int .i64 k, .int .i64 g, .string s] := by kernel_rfl

theorem frL_pay {w : World} {B : Nat} {f : Fr} (R : Row w B (frL f).toArray 46) (j : Nat) {c : UInt8} (hj : f.p[j]? = some c) : w.cell? (Addr.add ⟨B, 4, none⟩ j) = some (.int .u8 (c.toNat : Int)) := by
  rw [Addr.add_mid, R.cell, List.getElem?_toArray]
  have e : (frL f)[4 + j]? = (cellsL f.p)[j]? := by
    unfold frL
    rw [show 4 + j = j + 1 + 1 + 1 + 1 by omega]
    simp only [List.getElem?_cons_succ]
  rw [e]
  exact cellsL_get hj

theorem slice44 (B m : Nat) (hm : m ≤ 243) (w : World) : (Instr.sliceAt 44 (.pointer (some ⟨B, 4, none⟩)) none (some (.int .i64 (m : Int))) none).run Tryd.prog w = .ok (.slice (some ⟨B, 4, none⟩) m 243) w := by
  obtain ⟨i0, hi0, _, hz1, _⟩ := info_parts info5
  have e1 : Tryd.prog.arrayLen 44 = 243 := by kernel_rfl
  have e2 : Tryd.prog.elem 44 = 5 := by kernel_rfl
  have h := run_sliceAt_array_h (P := Tryd.prog) w 44 ⟨B, 4, none⟩ (by rw [e1, e2]; exact Tryd.underlying44) .i64 (m : Int) (by omega) (by rw [e1]; omega)
  rw [h, e1, e2]
  simp [sizeOf, typeInfo, hi0, slicedAt, Addr.add_mid]
theorem pg_all (k g : Int) (s : ByteArray) : (#[.int .i64 k, .int .i64 g, .string s] : Array Value).all (·.oneCell') = true := all_oneCell_toArray (cs := [.int .i64 k, .int .i64 g, .string s]) fun v hv => by
  simp only [List.mem_cons, List.not_mem_nil, or_false] at hv
  rcases hv with rfl | rfl | rfl <;> rfl

set_option maxRecDepth 20000 in
set_option maxHeartbeats 2000000 in
theorem page_any (f : Fr) (hf : f.Ok) (w : World) :
    Calls Tryd.prog 21 #[.agg (frL f).toArray] w fun e w' => e = .returned (.agg #[.int .i64 (f.k : Int), .int .i64 (f.g : Int), .string (bs (payOf f))]) ∧ New w w' := by
  obtain ⟨hk, hn, hg, hs, hp⟩ := hf
  obtain ⟨m, hm⟩ : ∃ m, min f.s 243 = m := ⟨_, rfl⟩
  have hml : m ≤ 243 := by omega
  have hmI : (if (243 : Int) < (f.s : Int) then (243 : Int) else (f.s : Int)) = (m : Int) := by split <;> omega
  have hpay : payOf f = f.p.take m := by unfold payOf; rw [hm]
  have hlen : (f.p.take m).length = m := by rw [List.length_take]; omega
  have HC : Hid (∀ w' : World, Row w' w.heap.size (frL f).toArray 46 → (convert 39 9 (.slice (some ⟨w.heap.size, 4, none⟩) m 243)).run Tryd.prog w' = .ok (.string (bs (f.p.take m))) w') := by
    intro w' R
    have := run_convert_bytes_back (P := Tryd.prog) w' 39 9 5 ⟨w.heap.size, 4, none⟩ 243 (f.p.take m) Tryd.underlying39 Tryd.underlying5 Tryd.underlying9 (fun j hj => frL_pay R j (by
      rw [hlen] at hj
      rw [List.getElem_take]
      exact List.getElem?_eq_getElem (by omega)))
    rw [hlen] at this
    exact this
  rw [hpay]
  have HP : Hid (f.p.length = 243) := hp
  clear hpay hlen hp hm
  generalize f.p.take m = q at *
  generalize hk' : f.k = k at *
  generalize hg' : f.g = g at *
  generalize hs' : f.s = sz at *
  have c0 : (frL f).toArray[0]? = some (.int .u8 (k : Int)) := by rw [← hk']; rfl
  have c2 : (frL f).toArray[2]? = some (.int .u32 (g : Int)) := by rw [← hg']; rfl
  have c3 : (frL f).toArray[3]? = some (.int .u16 (sz : Int)) := by rw [← hs']; rfl
  clear hk' hg' hs'
  generalize (frL f).toArray = cs at *
  go_enter Tryd.func21, Tryd.ntmps21
  go_wp2_with (first
    | (refine wpList_box_at (by rfl) 1 (by rfl) 46 _ (by rfl) cs (by rfl) ?_; intro W1 R1 N1)
    | (refine wpList_alloc_at (by rfl) 2 (by rfl) 23 (by rfl) _ _ _ info23 ?_; intro W2 R2 N2; have Ra := R1.after N2; have ha0 := Ra.has 0 c0; have ha2 := Ra.has 2 c2; have ha3 := Ra.has 3 c3)
    | refine wpList_min (by rfl) _ _ (by rfl) _ _ (m : Int) (by rfl) (by rfl) hmI ?_)
  have q0 := fun p => NewW.cell ha0 p
  have q2 := fun p => NewW.cell ha2 p
  have qc : ∀ p : NewW W2, (convert 39 9 (.slice (some ⟨w.heap.size, 4, none⟩) m 243)).run Tryd.prog p.v = .ok (.string (bs q)) p.v := fun p => HC.out p.v (Ra.after p.h)
  have qs : ∀ w' : World, (Instr.sliceAt 44 (.pointer (some ⟨w.heap.size, 4, none⟩)) none (some (.int .i64 (m : Int))) none).run Tryd.prog w' = .ok (.slice (some ⟨w.heap.size, 4, none⟩) m 243) w' := fun w' => slice44 w.heap.size m hml w'
  have hne := NewW.ne W2
  clear ha0 ha2 ha3 c0 c2 c3 hmI
  refine region_first 11 1 W2 (New.refl W2) (by kernel_rfl) (by kernel_rfl) ?_
  simp only [List.take_succ_cons, List.take_zero, List.drop_succ_cons, List.drop_zero]
  iterate 10 (go_big_quiet_step (fail))
  refine wpQuiet_build3 (by rfl) 23 _ _ _ (by rfl) _ _ _ (by rfl) (by rfl) (by rfl) _ (built23 _ _ _) ?_
  refine wpQuiet_nil ?_
  rintro w5 ⟨⟨_, hk5⟩, rfl⟩
  have l2 := N1.size
  refine wpList_store_new (by rfl) 23 _ _ (by rfl) W1.heap.size #[.int .i64 (k : Int), .int .i64 (g : Int), .string (bs q)] (by rfl) (by rfl) 23 _ (R2.after hk5) i23 rfl (pg_all _ _ _) ?_
  intro W7 R7 B7
  have hN7 : New w W7 := B7.new ((N1.trans N2).trans hk5) l2
  go_wp2_with fail
  exact bodyPost_ret (results_cell_row rfl _ _ W1.heap.size 23 #[.int .i64 (k : Int), .int .i64 (g : Int), .string (bs q)] (0, 0) _ rfl R7 Tryd.underlying23 rfl i23) rfl ⟨rfl, hN7⟩

/-- A row of bytes that grows, beside the frame's own block. -/
structure Buf (w0 : World) (cs : Array Value) (W : World) (v : Value) (l : List UInt8) : Prop where
  own : W.ownsRow w0.heap.size 5 1 v l.length (cellsL l)
  apart : v.ownBlock ≠ some w0.heap.size
  row : Row W w0.heap.size cs 46
  new : New w0 W
theorem own_after {w w' : World} {B : Nat} {t : TypeId} {k n : Nat} {v : Value} {xs : List Value} (h : w.ownsRow B t k v n xs) (N : New w w') : w'.ownsRow B t k v n xs := by
  rcases h with ⟨h1, h2 | ⟨g, cap, cur, hv, hb, h3, h4⟩⟩
  · exact ⟨h1, .inl h2⟩
  · exact ⟨h1, .inr ⟨g, cap, cur, hv, hb, (N.block g (Array.getElem?_eq_some_iff.1 h3).1).trans h3, h4⟩⟩
theorem Buf.after {w0 W W' : World} {cs : Array Value} {v : Value} {l : List UInt8} (h : Buf w0 cs W v l) (k : New W W') : Buf w0 cs W' v l := ⟨own_after h.own k, h.apart, h.row.after k, h.new.trans k⟩
theorem wpList_append_buf {w0 W : World} {cs : Array Value} {v : Value} {l : List UInt8} {ops : Array Oper} {rest : List Oper} {o : Oper} {a : Act} {Q : Exit → Act → World → Prop} (H : Buf w0 cs W v l) (hgd : o.guard = none) (s x : Operand)
    (ho : o.op = .call { callee := .builtin .append, args := #[s, x], argTypes := #[39, 39] }) (hs : a.eval s = v) (ad : Addr) (c : Nat) (m : List UInt8) (n : Nat) (hn : m.length = n) (hx : a.eval x = .slice (some ad) n c)
    (hnews : ∀ (j : Nat) b, m[j]? = some b → W.cell? (ad.add j) = some (.int .u8 (b.toNat : Int))) (hm : 0 < n) (hl : l.length + n ≤ 1000)
    (h : ∀ v' W', Buf w0 cs W' v' (l ++ m) → wpList Tryd.prog ops Q rest (a.put o.dst v') W') : wpList Tryd.prog ops Q (o :: rest) a W := by
  obtain ⟨i0, hi0, hz0, hz1, hz2⟩ := info_parts info5
  subst hn
  refine wpList_append_lies W hgd s x 39 ho w0.heap.size 5 i0 _ 1 1 Tryd.underlying39 hi0 hz0 hz1 hz2 rfl (by decide) v l.length (cellsL l) hs H.own ad m.length c (cellsL m) hx (by rw [cellsL_length, Nat.mul_one]) (fun j u hu => ?_) (cellsL_one _) hm (by unfold maxLen; omega) (by omega) H.new.size _ rfl ?_
  · unfold cellsL at hu
    rw [List.getElem?_map] at hu
    cases hb : m[j]? with
    | none => rw [hb] at hu; cases hu
    | some b => rw [hb] at hu; cases hu; exact hnews j b hb
  · intro g cap w' h1 h2 h3 h4
    have lt := H.row.lt
    refine h _ w' ⟨by rw [List.length_append, cellsL_append]; exact h1, ?_, H.row.of (h2.block _ lt (fun e => H.apart e.symm)), H.new.grown h2 (fun b hb => (H.own.lt b hb).1)⟩
    rcases h3 with h | h
    · exact fun e => H.apart (h.trans (by simpa [Value.ownBlock] using e))
    · intro e
      simp only [Value.ownBlock, Option.some.injEq] at e
      omega
theorem conv_own {w : World} {B : Nat} {v : Value} {l : List UInt8} {n : Nat} (hn : l.length = n) (h : w.ownsRow B 5 1 v n (cellsL l)) :
    (convert 39 9 v).run Tryd.prog w = .ok (.string (bs l)) w := by
  subst hn
  rcases id h.2 with ⟨rfl, h0⟩ | ⟨g, cap, cur, rfl, _⟩
  · obtain rfl : l = [] := List.length_eq_zero_iff.1 h0
    rw [run_convert_bytes_string w 39 9 5 none 0 0 Tryd.underlying39 Tryd.underlying5 Tryd.underlying9]
    rfl
  · exact run_convert_bytes_back w 39 9 5 ⟨g, 0, none⟩ cap l Tryd.underlying39 Tryd.underlying5 Tryd.underlying9 (fun j hj => by
      refine h.cells (g := g) rfl j _ ?_
      exact cellsL_get (List.getElem?_eq_getElem hj))

end Go.Proofs.YtlbnikkpfhclgaaDoor
