/-
  What From and New make.
-/
import Derived.Test.YtkcoclpbkealgaaDoorCrash
namespace Go.Proofs.YtkcoclpbkealgaaDoor
open Go.RowKit
set_option maxRecDepth 20000

/-- A list of texts that is read. -/
def Texts (w : World) (a : Option Addr) (ts : List ByteArray) : Prop := 0 < ts.length → ∃ x, a = some x ∧ ∀ i, i < ts.length → w.cell? (x.add i) = some (.string (ts.getD i ⟨#[]⟩))
theorem Texts.of {w w' : World} {a : Option Addr} {ts : List ByteArray} (h : Texts w a ts) (e : ∀ x, a = some x → x.block < w.heap.size → w'.heap[x.block]? = w.heap[x.block]?) : Texts w' a ts := fun h0 => by
  obtain ⟨x, rfl, hx⟩ := h h0
  refine ⟨x, rfl, fun i hi => ?_⟩
  have hb := World.block_lt_of_cell? w _ (hx i hi)
  rw [add_block] at hb
  rw [World.cell?_of_block (w := w) (a := x.add i) (by rw [add_block]; exact e x rfl hb)]
  exact hx i hi
theorem Texts.after {w w' : World} {a : Option Addr} {ts : List ByteArray} (h : Texts w a ts) (k : New w w') : Texts w' a ts := h.of fun _ _ hb => k.block _ hb
theorem Texts.step {w w' : World} {F F' : Nat → Prop} {a : Option Addr} {ts : List ByteArray} (h : Texts w a ts) (k : Step F F' w w') (hF : ∀ x, a = some x → ¬ F x.block) : Texts w' a ts := h.of fun x hx hb => k.block _ hb (hF x hx)

/-- May such a disk be made? -/
def fromB (ts : List ByteArray) (lim : Int) : Bool := decide (1 ≤ lim ∧ lim ≤ 200 ∧ (ts.length : Int) ≤ lim) && ts.all fun t => t.size == 256
/-- A new disk, or none. -/
def Made (w : World) (ok : Bool) (S : St) (e : Ending) (w' : World) : Prop :=
  New w w' ∧ if ok then ∃ p F, e = .returned (.tuple #[.pointer (some ⟨p, 0, none⟩), .bool true]) ∧ Disk w' F p S ∧ ∀ b, F b → w.heap.size ≤ b else e = .returned (.tuple #[.pointer none, .bool false])

set_option maxRecDepth 20000 in
set_option maxHeartbeats 2000000 in
theorem from_any (w : World) (a : Option Addr) (c : Nat) (ts : List ByteArray) (hT : Texts w a ts) (lim : Int) (hcs : ts.length ≤ 4611686018427387904) :
    Calls Tryd.prog 9 #[.slice a ts.length c, .int .i64 lim] w fun e w' => Made w (fromB ts lim) ⟨lim.toNat, ts.map L, [], -1, false⟩ e w' := by
  have HT : Hid (Texts w a ts) := hT
  clear hT
  by_cases h1 : lim < 1
  · have HB : Hid (fromB ts lim = false) := by show _ = _; unfold fromB; rw [decide_eq_false (by omega)]; rfl
    go_enter Tryd.func9, Tryd.ntmps9
    go_wp2_with fail
    go_ret2
    exact ⟨New.refl w, by rw [HB.out]; rfl⟩
  · by_cases h2 : 200 < lim
    · have HB : Hid (fromB ts lim = false) := by show _ = _; unfold fromB; rw [decide_eq_false (by omega)]; rfl
      go_enter Tryd.func9, Tryd.ntmps9
      go_wp2_with fail
      go_ret2
      exact ⟨New.refl w, by rw [HB.out]; rfl⟩
    · by_cases h3 : lim < (ts.length : Int)
      · have HB : Hid (fromB ts lim = false) := by show _ = _; unfold fromB; rw [decide_eq_false (by omega)]; rfl
        go_enter Tryd.func9, Tryd.ntmps9
        go_wp2_with fail
        go_ret2
        exact ⟨New.refl w, by rw [HB.out]; rfl⟩
      · obtain ⟨n, rfl⟩ : ∃ n : Nat, lim = (n : Int) := ⟨lim.toNat, by omega⟩
        have hn1 : 1 ≤ n := by omega
        have hn2 : n ≤ 200 := by omega
        have hn3 : ts.length ≤ n := by omega
        have HB : Hid (fromB ts (n : Int) = ts.all fun t => t.size == 256) := by show _ = _; unfold fromB; rw [decide_eq_true ⟨by omega, by omega, by omega⟩]; rfl
        go_enter Tryd.func9, Tryd.ntmps9
        go_wp2_with fail
        go_loopw [26] (fun i wr => ∃ k : Nat, k ≤ ts.length ∧ i = .int .i64 (k : Int) ∧ (∀ j, j < k → (ts.getD j ⟨#[]⟩).size = 256) ∧ New w wr ∧ ∃ F', Disk wr F' w.heap.size ⟨n, (ts.take k).map L, [], -1, false⟩ ∧ ∀ b, F' b → w.heap.size ≤ b) (fun i _ => ts.length - (intOf i).toNat)
        case atStart =>
          refine ⟨0, by omega, rfl, fun j hj => absurd hj (by omega), (New.refl w).alloc _, fun b => b = w.heap.size, ?_, fun b hb => Nat.le_of_eq hb.symm⟩
          exact ⟨⟨(by intro q hq; simp at hq), (by intro x hx; cases hx), hn2, by simp, Nat.zero_le _, (by show (-9223372036854775808 : Int) ≤ -1; omega), (by show (-1 : Int) ≤ 9223372036854775807; omega)⟩, rfl, fun b hb => by rw [hb]; simp, _, _, Row.new w _ 81, by simpa using Pl.nil _ _ _ _, by simpa using Pl.nil _ _ _ _⟩
        case round =>
          obtain ⟨k, hk, rfl, hall, N1, F', D4, hF4⟩ := hrel
          have hpl := D4.lt
          have HA : Hid (∀ j, j < k → (ts.getD j ⟨#[]⟩).size = 256) := hall
          clear hall
          by_cases hlt : k < ts.length
          · have hlt' : (k : Int) < (ts.length : Int) := by omega
            obtain ⟨xa, rfl, hxa⟩ := (HT.out.after N1) (by omega)
            have hby := hxa k hlt
            clear hxa
            have hmem : ts.getD k ⟨#[]⟩ ∈ ts := by rw [List.getD_eq_getElem?_getD, List.getElem?_eq_getElem hlt]; exact List.getElem_mem hlt
            have HL : Hid ((ts.take (k + 1)).map L = (ts.take k).map L ++ [L (ts.getD k ⟨#[]⟩)]) := by
              show _ = _
              rw [List.take_add_one, List.getElem?_eq_getElem hlt, List.map_append, List.getD_eq_getElem?_getD, List.getElem?_eq_getElem hlt]; rfl
            have HS : Hid ((ts.getD k ⟨#[]⟩).size = 256 → ∀ j, j < k + 1 → (ts.getD j ⟨#[]⟩).size = 256) := fun h j hj => by
              by_cases e : j = k
              · rw [e]; exact h
              · exact HA.out j (by omega)
            have HM : Hid ((ts.getD k ⟨#[]⟩).size ≠ 256 → (ts.all fun t => t.size == 256) = false) := fun h => by
              rw [List.all_eq_false]; exact ⟨_, hmem, by simpa using h⟩
            generalize ts.getD k ⟨#[]⟩ = t at hby HL HS HM
            clear hmem
            by_cases hs : t.size = 256
            · have hL : (L t).length = 256 := by rw [L_size]; exact hs
              have hlp : ((ts.take k).map L).length = k := by rw [List.length_map, List.length_take]; omega
              generalize (ts.take k).map L = lp at D4 HL hlp
              obtain ⟨a1, c1, a2, c2, _, k1, _, _, _, hf, R, P1, P2⟩ := D4.open
              simp only at k1 R P1 P2
              rw [hlp] at k1 R P1 P2
              have P1t := Disk.turned P1 P2
              have HD4 : Hid (Disk wr F' w.heap.size ⟨n, lp, [], -1, false⟩) := D4
              clear D4
              go_wp2_with fail
              have hS : HasCell ⟨w.heap.size, 1, none⟩ (.slice a1 k c1) wr.drew := HasCell.of k1
              refine region_take [0, 1, 2, 3, 4, 5] [6, 7, 8, 9, 10] 11 (HasCell ⟨w.heap.size, 1, none⟩ (.slice a1 k c1)) hS (by kernel_rfl) (by kernel_rfl) (fun d _ _ _ _ h => by cases d <;> exact h) ?_
              simp only [pick, List.getElem?_cons_succ, List.getElem?_cons_zero, Option.toList_some, List.cons_append, List.nil_append]
              have hne : Nonempty (CellW ⟨w.heap.size, 1, none⟩ (.slice a1 k c1)) := ⟨⟨wr, k1⟩⟩
              have hq2 : ∀ q : CellW ⟨w.heap.size, 1, none⟩ (.slice a1 k c1), q.v.cell? ⟨w.heap.size, 1, none⟩ = some (.slice a1 k c1) := fun q => q.h
              unfold HasCell
              repeat (go_big_quiet_step (fail))
              refine wpQuiet_nil ?_
              have NW0 : New wr wr.drew := New.drew wr
              clear hq2 hne hS
              refine wpPre_call (some 39) 38 #[.string t] (by rfl) (by rfl) (by rfl) (by go_simp) ?_
              refine (pageOf_any t hs _).mono ?_
              rintro _ W1 ⟨rfl, N1'⟩
              have M1 : New wr W1 := NW0.trans N1'
              refine ⟨_, rfl, HasCell.of ((M1.cell hpl).trans k1), ?_⟩
              simp only [Act.put, List.setIfInBounds_toArray, List.set_cons_zero, List.set_cons_succ]
              have hb1 := run_buildOne W1 78 85 (cellsL (L t)).toArray _ _ _ Tryd.underlying78 info77 (by rw [cellsL_size, hL]) (by decide) (by decide)
              have R2 := Row.new W1 (cellsL (L t)).toArray 85
              have M2 : New wr (W1.alloc (.cells (cellsL (L t)).toArray 85)) := M1.alloc _
              generalize W1.alloc (.cells (cellsL (L t)).toArray 85) = W2 at hb1 R2 M2
              refine wpPre_run (some 40) _ W2 (by rfl) (by rfl) (by rfl) (exec_buildSlice (by rfl) (by rfl) hb1) (HasCell.of ((M2.cell hpl).trans k1)) ?_
              simp only [Act.put, List.setIfInBounds_toArray, List.set_cons_zero, List.set_cons_succ]
              obtain ⟨g3, cap3, W3, hb2, Q3, G3⟩ := run_append_pl (P1t.after M2) 78 78 Tryd.underlying78 _ _ info77 info77_size (by decide) W1.heap.size (cellsL (L t)) 85 R2 (by rw [cellsL_length, hL]) (cellsL_one _) (by rw [List.length_map]; omega) (by decide)
              have R3 : Row W3 w.heap.size _ 81 := (R.after M2).of (G3.block w.heap.size (Nat.lt_of_lt_of_le hpl M2.size) (fun e => (P1t.foot _ e.symm).2.1 rfl))
              have hs3 : W3.cell? ⟨w.heap.size, 1, none⟩ = some (.slice a1 k c1) := R3.cell 1
              have hf3 := R3.frozen 1
              refine wpPre_run (some 41) _ W3 (by rfl) (by rfl) (by rfl) (exec_append (by rfl) (by rfl) (by rfl) hb2) (HasCell.of hs3) ?_
              simp only [Act.put, List.setIfInBounds_toArray, List.set_cons_zero, List.set_cons_succ]
              refine wpPre_run (some 42) (.pointer (some ⟨w.heap.size, 0, none⟩)) W3 (by rfl) (by rfl) (by rfl) (by go_simp) (HasCell.of hs3) ?_
              simp only [Act.put, List.setIfInBounds_toArray, List.set_cons_zero, List.set_cons_succ]
              refine wpPre_run (some 43) (.pointer (some ⟨w.heap.size, 1, none⟩)) W3 (by rfl) (by rfl) (by rfl) (by go_simp) (HasCell.of hs3) ?_
              simp only [Act.put, List.setIfInBounds_toArray, List.set_cons_zero, List.set_cons_succ]
              refine wpPre_nil ?_
              clear hb1 hb2 k1 hf
              go_wp2_with fail
              have hlen : (lp.map cellsL).length + 1 = k + 1 := by rw [List.length_map]; omega
              rw [hlen] at Q3
              obtain ⟨F5, D5, S5⟩ := Disk.addPage (Step.refl F' wr) HD4.out.base HD4.out R P2 P1t M2 G3 Q3 hL (by show lp.length < n; omega)
              obtain ⟨B5, hF5, _⟩ := S5.below N1 N1.size hF4
              refine ⟨⟨k + 1, by omega, by go_num, HS.out hs, B5, F5, ?_, hF5⟩, by simp [intOf]; omega⟩
              rw [HL.out]
              exact D5
            · have hs' : ¬ (t.size : Int) = 256 := by omega
              have HB' : Hid (fromB ts (n : Int) = false) := by show _ = _; rw [HB.out]; exact HM.out hs
              clear D4
              go_wp2_with fail
              go_ret2
              exact ⟨N1, by rw [HB'.out]; rfl⟩
          · obtain rfl : k = ts.length := by omega
            have HB' : Hid (fromB ts (n : Int) = true) := by
              show _ = _
              rw [HB.out, List.all_eq_true]
              intro t ht
              obtain ⟨j, hj, rfl⟩ := List.getElem_of_mem ht
              have := HA.out j hj
              rw [List.getD_eq_getElem?_getD, List.getElem?_eq_getElem hj] at this
              simpa using this
            rw [List.take_length] at D4
            have HD4 : Hid (Disk wr F' w.heap.size ⟨n, ts.map L, [], -1, false⟩) := D4
            clear D4
            go_wp2_with fail
            go_ret2
            refine ⟨N1, ?_⟩
            rw [HB'.out]
            exact ⟨_, F', rfl, HD4.out, hF4⟩

/-- A page of one byte. -/
def fillL (v : UInt8) : List UInt8 := List.replicate 256 v
theorem fillL_length (v : UInt8) : (fillL v).length = 256 := by unfold fillL; rw [List.length_replicate]

set_option maxRecDepth 20000 in
set_option maxHeartbeats 1000000 in
theorem fill_any (v : UInt8) (w : World) : Calls Tryd.prog 39 #[.int .u8 (v.toNat : Int)] w fun e w' => e = .returned (.string (bs (fillL v))) ∧ New w w' := by
  obtain ⟨i0, hi0, hz0, hz1, hz2⟩ := info_parts info5
  have hmk := run_make (P := Tryd.prog) w 22 5 i0 _ Tryd.underlying22 hi0 hz0 .i64 .i64 256 256 (by omega) (by omega) (by rw [hz2]; omega) (by omega)
  have hrow : madeCells (Value.int .u8 0).cells ((256 : Int).toNat * i0.size) = (cellsL zeros).toArray := by
    rw [hz1]
    apply Array.ext'
    show (madeCells #[Value.int .u8 0] 256).toList = _
    rw [toList_madeCells_one]
    unfold cellsL zeros
    rw [List.map_replicate]; rfl
  rw [hrow] at hmk
  have R0 := Row.new w (cellsL zeros).toArray 5
  have N0 : New w (w.alloc (.cells (cellsL zeros).toArray 5)) := (New.refl w).alloc _
  generalize w.alloc (.cells (cellsL zeros).toArray 5) = W at hmk R0 N0
  have hmk' : Sem.run Tryd.prog (Instr.makeSlice 22 (.int .i64 256) (.int .i64 256)) w = .ok (.slice (some ⟨w.heap.size, 0, none⟩) 256 256) W := hmk
  clear hmk hrow
  go_enter Tryd.func39, Tryd.ntmps39
  go_wp2_with fail
  clear hmk'
  go_loopw [4] (fun i wr => ∃ k : Nat, k ≤ 256 ∧ i = .int .i64 (k : Int) ∧ Row wr w.heap.size (cellsL (List.replicate k v ++ List.replicate (256 - k) 0)).toArray 5 ∧ New w wr) (fun i _ => 256 - (intOf i).toNat)
  case atStart => exact ⟨0, by omega, rfl, by simpa [zeros] using R0, N0⟩
  case round =>
    clear R0 N0
    obtain ⟨k, hk, rfl, R1, N1⟩ := hrel
    by_cases hlt : k < 256
    · have hlt' : (k : Int) < 256 := by omega
      have hsz : (cellsL (List.replicate k v ++ List.replicate (256 - k) 0)).toArray.size = 256 := by rw [cellsL_size, List.length_append, List.length_replicate, List.length_replicate]; omega
      have hc : ∃ u, wr.cell? ⟨w.heap.size, k, none⟩ = some u := ⟨_, by rw [R1.cell, Array.getElem?_eq_getElem (by omega)]⟩
      obtain ⟨u, hu⟩ := hc
      have hf := R1.frozen k
      have R2 := R1.set k (.int .u8 (v.toNat : Int))
      have he : (cellsL (List.replicate k v ++ List.replicate (256 - k) 0)).toArray.setIfInBounds k (.int .u8 (v.toNat : Int)) = (cellsL (List.replicate (k + 1) v ++ List.replicate (256 - (k + 1)) 0)).toArray := by
        rw [List.setIfInBounds_toArray]
        unfold cellsL
        rw [show Value.int .u8 (v.toNat : Int) = (fun (c : UInt8) => Value.int .u8 (c.toNat : Int)) v from rfl, ← List.map_set]
        congr 2
        rw [List.set_append_right _ _ (by simp), List.length_replicate, Nat.sub_self, show 256 - k = (256 - (k + 1)) + 1 by omega, List.replicate_succ, List.set_cons_zero, List.replicate_succ', List.append_assoc]
        rfl
      rw [he] at R2
      have HR : Hid (Row (wr.setCell ⟨w.heap.size, k, none⟩ (.int .u8 (v.toNat : Int))) w.heap.size (cellsL (List.replicate (k + 1) v ++ List.replicate (256 - (k + 1)) 0)).toArray 5) := R2
      clear R1 R2 he hsz
      go_wp2_with fail
      exact ⟨⟨k + 1, by omega, by go_num, HR.out, N1.setCell (Nat.le_refl _) _⟩, by simp [intOf]; omega⟩
    · obtain rfl : k = 256 := by omega
      have hcv : (convert 22 9 (.slice (some ⟨w.heap.size, 0, none⟩) 256 256)).run Tryd.prog wr = .ok (.string (bs (fillL v))) wr := by
        refine run_convert_bytes_back wr 22 9 5 ⟨w.heap.size, 0, none⟩ 256 (fillL v) Tryd.underlying22 Tryd.underlying5 Tryd.underlying9 (fun j hj => ?_)
        rw [Addr.add_mid, Nat.zero_add, R1.cell, List.getElem?_toArray, Nat.sub_self, List.replicate_zero, List.append_nil]
        exact cellsL_get (List.getElem?_eq_getElem hj)
      clear R1
      go_wp2_with fail
      go_ret
      exact ⟨rfl, N1⟩

end Go.Proofs.YtkcoclpbkealgaaDoor
