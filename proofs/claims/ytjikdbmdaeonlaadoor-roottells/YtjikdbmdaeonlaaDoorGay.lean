/-
  A copy of a list of texts onto an empty slice; a region that draws its order, its reads taken first. The reference's Encode and Hash. The reference's Encode and Hash say what Encode and Hash say.
-/
import Derived.Test.YtjikdbmdaeonlaaDoorGax
import Derived.Test.YtjikdbmdaeonlaaDoorGad
import Derived.Test.YtjikdbmdaeonlaaDoorGav
import Derived.Deep.Upon
import Derived.ArgAppend
import Derived.Test.YtjikdbmdaeonlaaDoorGak
namespace Go.Proofs.YtjikdbmdaeonlaaDoor.No
open Go.RowKit
set_option maxRecDepth 20000
set_option linter.unusedVariables false

theorem run_buildNil (w : World) : (Instr.buildSlice 28 0 #[]).run Tryd.prog w = .ok (.slice (some ⟨w.heap.size, 0, none⟩) 0 0) (w.alloc (.cells #[] 9)) := by
  obtain ⟨i0, hi0, hz0, hz1, hz2⟩ := info_parts info9
  simp [Instr.buildSlice, run_underlying Tryd.underlying28, sizeOf, typeInfo, hi0, newRow, Instr.fill]
  exact congrArg (fun z => w.alloc (.cells z 9)) (Array.ext' (by simp))
theorem copy_app (W : World) (G : Nat) (R : Row W G #[] 9) (a : Option Addr) (c : Nat) (hs : List (List UInt8)) (hT : Tx W a hs) (hl : hs.length ≤ 3000) :
    ∃ g d W', (Builtin.append_ #[28, 28] 28 #[.slice (some ⟨G, 0, none⟩) 0 0, .slice a hs.length c]).run Tryd.prog W = .ok (.slice (some ⟨g, 0, none⟩) hs.length d) W' ∧ New W W' ∧ Tx W' (some ⟨g, 0, none⟩) hs ∧ (∃ cur, Row W' g cur 9) ∧ (g = G ∨ W.heap.size ≤ g) := by
  obtain ⟨i0, hi0, hz0, hz1, hz2⟩ := info_parts info9
  by_cases h0 : hs = []
  · subst h0
    refine ⟨G, 0, W, ?_, New.refl W, Tx.nil _ _, ⟨_, R⟩, .inl rfl⟩
    refine run_append_nothing W 28 28 28 9 i0 Tryd.underlying28 hi0 (some ⟨G, 0, none⟩) 0 0 (Nat.le_refl _) _ ⟨.inl ⟨9, Tryd.underlying28⟩, fun w' => ?_, ?_, ?_, by simp, fun u hu => by cases hu⟩
    · simp [Builtin.lenOf]
    · cases a <;> simp [Builtin.firstCells, loadCells, loadCellsFrom]
    · cases a <;> simp [Builtin.firstCells, loadCells, loadCellsFrom]
  · have hpos : 0 < hs.length := List.length_pos_iff.2 h0
    obtain ⟨x, rfl, hx⟩ := hT hpos
    obtain ⟨v', W', hr, hown, hgrow⟩ := run_append_arg_grows (P := Tryd.prog) W 28 28 9 i0 _ 1 16 Tryd.underlying28 hi0 hz0 hz1 hz2 rfl (by decide) ⟨G, 0, none⟩ 0 0 [] rfl (fun j u hj => by simp at hj) x hs.length c (hs.map fun h => Value.string (bs h)) (by rw [List.length_map]; omega)
      (fun j u hj => by
        rw [List.getElem?_map] at hj
        cases hy : hs[j]? with
        | none => rw [hy] at hj; cases hj
        | some y => rw [hy] at hj; cases hj; exact hx j y hy) (by omega) (by unfold maxLen; omega) (by omega)
    rw [Nat.zero_add] at hown
    obtain ⟨a', c', rfl, hT', hB⟩ := owns_tx rfl hown
    obtain ⟨x', rfl, _⟩ := hT' hpos
    rcases hown.2 with ⟨h1, _⟩ | ⟨g, cap, cur, hv, hb, hg, _⟩
    · cases h1
    · cases hv
      exact ⟨g, _, W', hr, ⟨hgrow.os, hgrow.tape, hgrow.output, hgrow.size, fun k hk => hgrow.block k hk (by simp)⟩, hT', ⟨cur, hg⟩, .inr hb⟩

section
variable {P : Program} {Q : Exit → Act → World → Prop}
def readsFirstB (md : Region.Mode) (l : List Oper) (rs : List Nat) (m z : Nat) : Bool :=
  Region.noSelect l.toArray && insideB l.length rs && readsB md l.toArray z rs (Array.replicate l.toArray.size false) && (rs.length + m == l.length)
theorem region_reads {id : Nat} {a : Act} {w : World} {l : List Oper} (rs : List Nat) (m z : Nat) (S : World → Prop) (hS : S w.drew) (hm : P.follows .mixedOrders = true) (hB : readsFirstB .any l rs m z = true) (hQ : ∀ d v c a w, Q (.panic c) (a.put d v) w → Q (.panic c) a w)
    (h : wpQuiet P l.toArray S (fun a' => wpG P .any l.toArray Q S z m (fullAt rs (Array.replicate l.toArray.size false)) a' w.drew) (pick l rs) a) : (Code.region id l.toArray true).wp P Q a w := by
  simp only [readsFirstB, Bool.and_eq_true, beq_iff_eq] at hB
  obtain ⟨⟨⟨h1, h2⟩, h4⟩, h6⟩ := hB
  refine wpG.region z S hm ?_
  have := wpG.reads (P := P) (Q := Q) (S := S) (z := z) (md := .any) h1 hQ rs m (Array.replicate l.toArray.size false) a w.drew hS h2 h4 h
  rw [h6] at this
  exact this
theorem exec_buildNil {o : Oper} {a : Act} {T : TypeId} {v : Value} {w w' : World} (ho : o.op = .buildSlice T 0 #[]) (hr : (Instr.buildSlice T 0 #[]).run P w = .ok v w') : (execOp a.eval o).run P w = .ok (.value v) w' := by
  unfold execOp
  simp only [ho, List.map_toArray, List.map_nil, Sem.run_bind, hr, Result.andThen_ok, Sem.run_pure]
theorem exec_build6 {o : Oper} {a : Act} {w : World} {T : TypeId} {x0 x1 x2 x3 x4 x5 : Operand} {v0 v1 v2 v3 v4 v5 r : Value} (ho : o.op = .build T #[(0, x0), (1, x1), (2, x2), (3, x3), (4, x4), (5, x5)]) (h0 : a.eval x0 = v0) (h1 : a.eval x1 = v1) (h2 : a.eval x2 = v2) (h3 : a.eval x3 = v3) (h4 : a.eval x4 = v4) (h5 : a.eval x5 = v5) (hr : (Instr.build T #[(0, v0), (1, v1), (2, v2), (3, v3), (4, v4), (5, v5)]).run P w = .ok r w) : (execOp a.eval o).run P w = .ok (.value r) w := by
  unfold execOp
  simp only [ho, List.map_toArray, List.map_cons, List.map_nil, h0, h1, h2, h3, h4, h5, Sem.run_bind, hr, Result.andThen_ok, Sem.run_pure]
theorem exec_alloc {o : Oper} {a : Act} {w : World} {T : TypeId} {z : Array Value} {n b : Nat} (ho : o.op = .alloc T) (hi : (P.info? T).map (fun i => (i.zero, i.size, i.bytes)) = some (some (.agg z), n, b)) : (execOp a.eval o).run P w = .ok (.value (.pointer (some ⟨w.heap.size, 0, none⟩))) (w.alloc (.cells z T)) := by
  obtain ⟨i0, hi0, hz0, hz1, hz2⟩ := info_parts hi
  unfold execOp
  simp [ho, Instr.alloc, newVar, newRow, zeroValue, typeInfo, hi0, hz0, Value.cells]
end
theorem built24_six (k : Int) (p : ByteArray) (has : Bool) (v : ByteArray) (m : Int) (a : Option Addr) (n c : Nat) : Tryd.prog.built 32 [(0, .int .i64 k), (1, .string p), (2, .bool has), (3, .string v), (4, .int .i64 m), (5, .slice a n c)] = some #[.int .i64 k, .string p, .bool has, .string v, .int .i64 m, .slice a n c] := by kernel_rfl
theorem run_build24 (w : World) (I : It) (a : Option Addr) (c : Nat) : (Instr.build 32 #[(0, .int .i64 I.k), (1, .string (bs I.p)), (2, .bool I.has), (3, .string (bs I.v)), (4, .int .i64 I.m), (5, .slice a I.hs.length c)]).run Tryd.prog w = .ok (.agg (itC I a c)) w :=
  run_build w 32 _ _ (built24_six _ _ _ _ _ _ _ _)
end Go.Proofs.YtjikdbmdaeonlaaDoor.No
namespace Go.Proofs.YtjikdbmdaeonlaaDoor.No
open Go.RowKit
set_option maxRecDepth 20000
set_option linter.unusedVariables false

theorem conv_two (w : World) (b : Nat) (c d : UInt8) (h : Row w b #[.int .u8 (c.toNat : Int), .int .u8 (d.toNat : Int)] 5) : (convert 60 9 (.slice (some ⟨b, 0, none⟩) 2 2)).run Tryd.prog w = .ok (.string (bs [c, d])) w :=
  run_convert_bytes_back w 60 9 5 ⟨b, 0, none⟩ 2 [c, d] Tryd.underlying60 Tryd.underlying5 Tryd.underlying9 (fun j hj => by
    rw [Addr.add_mid, Nat.zero_add, h.cell]
    match j, hj with
    | 0, _ => rfl
    | 1, _ => rfl)
theorem c_pack (p : List UInt8) (hp : goodB p = true) : ∀ W, Says 60 #[.string (bs p)] (.agg #[.string (bs (packL p)), .bool true]) W := fun W => by
  have h := refPack_any (bs p) (by rw [bs_size]; have := (goodB_parts hp).1; omega) W
  rw [L_bs, hp, if_pos rfl] at h
  exact h
theorem flat_take (hs : List (List UInt8)) (k : Nat) (x : List UInt8) (h : hs[k]? = some x) : (hs.take (k + 1)).flatten = (hs.take k).flatten ++ x := by
  rw [List.take_add_one, h]; simp
theorem bs_add (a b : List UInt8) : bs a ++ bs b = bs (a ++ b) := eq_of_L (by rw [L_append, L_bs, L_bs, L_bs])
section
variable {w : World} {ops : Array Oper} {rest : List Oper} {o : Oper} {a : Act} {Q : Exit → Act → World → Prop}
theorem wpList_b1 (hgd : o.guard = none) (d : Tmp) (hd : o.dst = some d) (x : Operand) (ho : o.op = .buildSlice 60 1 #[(0, x)]) (z : Int) (hx : a.eval x = .int .u8 z)
    (h : ∀ W', Row W' w.heap.size #[.int .u8 z] 5 → New w W' → wpList Tryd.prog ops Q rest (a.put (some d) (.slice (some ⟨w.heap.size, 0, none⟩) 1 1)) W') : wpList Tryd.prog ops Q (o :: rest) a w :=
  wpList_run hgd _ _ (exec_buildSlice ho hx (run_buildCell (P := Tryd.prog) w 60 5 (.int .u8 z) _ _ Tryd.underlying60 info5 rfl)) (by rw [hd]; exact h _ (Row.new w _ 5) ((New.refl w).alloc _))
theorem run_buildTwo (w : World) (u v : Int) : (Instr.buildSlice 60 2 #[(0, .int .u8 u), (1, .int .u8 v)]).run Tryd.prog w = .ok (.slice (some ⟨w.heap.size, 0, none⟩) 2 2) (w.alloc (.cells #[.int .u8 u, .int .u8 v] 5)) := by
  obtain ⟨i0, hi0, hz0, hz1, hz2⟩ := info_parts info5
  exact run_buildSlice (P := Tryd.prog) w 60 5 2 #[(0, .int .u8 u), (1, .int .u8 v)] #[.int .u8 u, .int .u8 v] i0 _ Tryd.underlying60 hi0 hz0 (by rw [hz1]; decide) (by rw [hz1]; decide) (by rw [hz1]; kernel_rfl)
theorem wpList_b2 (hgd : o.guard = none) (d : Tmp) (hd : o.dst = some d) (x y : Operand) (ho : o.op = .buildSlice 60 2 #[(0, x), (1, y)]) (u v : Int) (hx : a.eval x = .int .u8 u) (hy : a.eval y = .int .u8 v)
    (h : ∀ W', Row W' w.heap.size #[.int .u8 u, .int .u8 v] 5 → New w W' → wpList Tryd.prog ops Q rest (a.put (some d) (.slice (some ⟨w.heap.size, 0, none⟩) 2 2)) W') : wpList Tryd.prog ops Q (o :: rest) a w := by
  refine wpList_run hgd _ _ ?_ (by rw [hd]; exact h _ (Row.new w _ 5) ((New.refl w).alloc _))
  unfold execOp
  simp only [ho, List.map_toArray, List.map_cons, List.map_nil, hx, hy, Sem.run_bind, run_buildTwo, Result.andThen_ok, Sem.run_pure]
end

set_option maxHeartbeats 4000000 in
theorem renc_leaf (p v : List UInt8) (hp : goodB p = true) (hv : v.length ≤ 16) (cb : UInt8) (hcb : UInt8.ofNat v.length = cb) (hs : List (List UInt8)) (hl : hs.length ≤ 16) (h32 : ∀ x ∈ hs, x.length = 32) (hg : goodI ⟨1, p, true, v, 0, hs⟩ = true) (henc : encL ⟨1, p, true, v, 0, hs⟩ = ([1] ++ packL p ++ ([cb] ++ v)) ++ hs.flatten) (a : Option Addr) (c : Nat) (w : World) (hT : Tx w a hs) :
    Says 37 #[.agg (itC ⟨1, p, true, v, 0, hs⟩ a c)] (.string (bs (encL ⟨1, p, true, v, 0, hs⟩))) w := by
  have hS := good_small _ hg
  have HT : Hid (Tx w a hs) := hT
  have G3 := c_rgood ⟨1, p, true, v, 0, hs⟩ hS a c
  have hln := enc_len _ hg
  rw [hg] at G3
  have hel : (encL ⟨1, p, true, v, 0, hs⟩).length ≤ 533 := by rw [hln.1]; exact hln.2.1
  have HE : Hid (([1] ++ packL p ++ ([cb] ++ v)) ++ hs.flatten = encL ⟨1, p, true, v, 0, hs⟩) := henc.symm
  have hel2 : (([1] ++ packL p ++ ([cb] ++ v))).length + hs.flatten.length ≤ 533 := by rw [← List.length_append, ← henc]; exact hel
  have H32 := hide h32
  have hpk : (bs (packL p)).size ≤ 20 := by rw [bs_size, pack_length]; have := (goodB_parts hp).1; omega
  have HP := c_pack p hp
  have hvl : (bs v).size ≤ 16 := hv
  have HB : Hid (((bs v).size : Int) = (cb.toNat : Int)) := by show _ = _; rw [← hcb, bs_size, UInt8.toNat_ofNat']; omega
  clear hcb
  have hz1 : (bs [cb]).size = 1 := rfl
  have hz2 : (bs [1]).size = 1 := rfl
  generalize encL ⟨1, p, true, v, 0, hs⟩ = E at *
  clear hT hS hg hln hel h32 henc
  show Says 37 #[.agg #[.int .i64 1, .string (bs p), .bool true, .string (bs v), .int .i64 0, .slice a hs.length c]] (.string (bs E)) w
  replace G3 : ∀ W, Tx W a hs → Says 59 #[.agg #[.int .i64 1, .string (bs p), .bool true, .string (bs v), .int .i64 0, .slice a hs.length c]] (.bool true) W := G3
  have s3 : (Tryd.prog.info? 32).map (·.size) = some (#[.int .i64 1, .string (bs p), .bool true, .string (bs v), .int .i64 0, .slice a hs.length c] : Array Value).size := i24
  generalize hsp : bs p = sp at *
  generalize hsv : bs v = sv at *
  generalize hsk : bs (packL p) = sk at *
  go_enter Tryd.func37, Tryd.ntmps37
  go_wp2_with (first
    | (refine wpList_box_at (by rfl) 1 (by rfl) 32 _ (by rfl) #[.int .i64 1, .string sp, .bool true, .string sv, .int .i64 0, .slice a hs.length c] (by rfl) ?_; intro Wa R3 N)
    | refine wpList_load_want (by rfl) 32 _ (by rfl) w.heap.size (by rfl) 32 _ _ R3 Tryd.underlying32 rfl s3 ?_
    | refine wpList_load_row (by rfl) 32 _ (by rfl) w.heap.size (by rfl) 32 _ (0, 0) _ R3 Tryd.underlying32 rfl s3 ?_)
  refine (G3 _ (HT.out.after N)).mono ?_
  rintro _ W1 ⟨rfl, k⟩
  replace R3 := R3.after k
  replace N := N.trans k
  clear k G3
  have c0W1 : W1.cell? ⟨w.heap.size, 0, none⟩ = some (.int .i64 1) := R3.cell 0
  have c1W1 : W1.cell? ⟨w.heap.size, 1, none⟩ = some (.string sp) := R3.cell 1
  have c2W1 : W1.cell? ⟨w.heap.size, 2, none⟩ = some (.bool true) := R3.cell 2
  have c3W1 : W1.cell? ⟨w.heap.size, 3, none⟩ = some (.string sv) := R3.cell 3
  have c4W1 : W1.cell? ⟨w.heap.size, 4, none⟩ = some (.int .i64 0) := R3.cell 4
  have c5W1 : W1.cell? ⟨w.heap.size, 5, none⟩ = some (.slice a hs.length c) := R3.cell 5
  go_wp2_with (first | (refine wpList_b1 (by rfl) 11 (by rfl) _ (by rfl) _ (by rfl) ?_; intro B11 RB NB; have hcv11 := conv_one B11 _ 1 (RB.cell 0); replace R3 := R3.after NB; replace N := N.trans NB; clear RB NB; have c0B11 : B11.cell? ⟨w.heap.size, 0, none⟩ = some (.int .i64 1) := R3.cell 0; have c1B11 : B11.cell? ⟨w.heap.size, 1, none⟩ = some (.string sp) := R3.cell 1; have c2B11 : B11.cell? ⟨w.heap.size, 2, none⟩ = some (.bool true) := R3.cell 2; have c3B11 : B11.cell? ⟨w.heap.size, 3, none⟩ = some (.string sv) := R3.cell 3; have c4B11 : B11.cell? ⟨w.heap.size, 4, none⟩ = some (.int .i64 0) := R3.cell 4; have c5B11 : B11.cell? ⟨w.heap.size, 5, none⟩ = some (.slice a hs.length c) := R3.cell 5))
  refine (HP _).mono ?_
  rintro _ W5 ⟨rfl, k⟩
  replace R3 := R3.after k
  replace N := N.trans k
  clear k
  have hfield := field_text sk true W5
  have c0W5 : W5.cell? ⟨w.heap.size, 0, none⟩ = some (.int .i64 1) := R3.cell 0
  have c1W5 : W5.cell? ⟨w.heap.size, 1, none⟩ = some (.string sp) := R3.cell 1
  have c2W5 : W5.cell? ⟨w.heap.size, 2, none⟩ = some (.bool true) := R3.cell 2
  have c3W5 : W5.cell? ⟨w.heap.size, 3, none⟩ = some (.string sv) := R3.cell 3
  have c4W5 : W5.cell? ⟨w.heap.size, 4, none⟩ = some (.int .i64 0) := R3.cell 4
  have c5W5 : W5.cell? ⟨w.heap.size, 5, none⟩ = some (.slice a hs.length c) := R3.cell 5
  go_wp2_with (first | (refine wpList_b1 (by rfl) 56 (by rfl) _ (by rfl) _ (by rfl) ?_; intro B56 RB NB; have hcv56 := conv_one B56 _ cb (by rw [← HB.out]; exact RB.cell 0); replace R3 := R3.after NB; replace N := N.trans NB; clear RB NB; have c0B56 : B56.cell? ⟨w.heap.size, 0, none⟩ = some (.int .i64 1) := R3.cell 0; have c1B56 : B56.cell? ⟨w.heap.size, 1, none⟩ = some (.string sp) := R3.cell 1; have c2B56 : B56.cell? ⟨w.heap.size, 2, none⟩ = some (.bool true) := R3.cell 2; have c3B56 : B56.cell? ⟨w.heap.size, 3, none⟩ = some (.string sv) := R3.cell 3; have c4B56 : B56.cell? ⟨w.heap.size, 4, none⟩ = some (.int .i64 0) := R3.cell 4; have c5B56 : B56.cell? ⟨w.heap.size, 5, none⟩ = some (.slice a hs.length c) := R3.cell 5))
  have HTL := hide (HT.out.after N)
  go_loop [3, 4] (fun s i => ∃ k : Nat, k ≤ hs.length ∧ i = .int .i64 (k : Int) ∧ s = .string (bs (([1] ++ packL p ++ ([cb] ++ v)) ++ (hs.take k).flatten))) (fun _ i => hs.length - (intOf i).toNat)
  case atStart => exact ⟨0, by omega, rfl, by rw [List.take_zero, List.flatten_nil, List.append_nil]; subst hsv; subst hsk; rw [bs_add, bs_add, bs_add]⟩
  case round =>
    obtain ⟨k, hk, rfl, rfl⟩ := hrel
    by_cases hlt : k < hs.length
    · have hlt' : (k : Int) < (hs.length : Int) := by omega
      obtain ⟨x, rfl, hx⟩ := HTL.out (by omega)
      have hk' : hs[k]? = some hs[k] := List.getElem?_eq_getElem hlt
      have hcell := hx k _ hk'
      have hsz : (bs hs[k]).size = 32 := H32.out _ (List.getElem_mem hlt)
      have hft := flat_take hs k _ hk'
      have hfl : (hs.take k).flatten.length ≤ hs.flatten.length := by
        have := congrArg List.length (congrArg List.flatten (List.take_append_drop k hs))
        rw [List.flatten_append, List.length_append] at this
        omega
      have hszp : (bs (([1] ++ packL p ++ ([cb] ++ v)) ++ (hs.take k).flatten)).size ≤ 600 := by rw [bs_size, List.length_append]; omega
      have HN : Hid (bs (([1] ++ packL p ++ ([cb] ++ v)) ++ (hs.take k).flatten) ++ bs hs[k] = bs (([1] ++ packL p ++ ([cb] ++ v)) ++ (hs.take (k + 1)).flatten)) := by
        show _ = _
        rw [hft, bs_add, List.append_assoc]
      clear hx hk' hft hfl
      generalize bs hs[k] = q at *
      generalize bs (([1] ++ packL p ++ ([cb] ++ v)) ++ (hs.take k).flatten) = sa at *
      go_wp2_with fail
      go_round
      case rel => exact ⟨k + 1, by omega, by go_num, by rw [HN.out]⟩
      case measure => simp [intOf]; omega
    · obtain rfl : k = hs.length := by omega
      have HF : Hid (bs (([1] ++ packL p ++ ([cb] ++ v)) ++ (hs.take hs.length).flatten) = bs E) := by show _ = _; rw [List.take_length, HE.out]
      generalize bs (([1] ++ packL p ++ ([cb] ++ v)) ++ (hs.take hs.length).flatten) = sa at *
      go_wp2_with fail
      go_ret
      exact ⟨by rw [HF.out]; rfl, N⟩

set_option maxHeartbeats 4000000 in
theorem renc_ext (p : List UInt8) (hp : goodB p = true) (hs : List (List UInt8)) (hl : hs.length ≤ 16) (h32 : ∀ x ∈ hs, x.length = 32) (hg : goodI ⟨2, p, false, [], 1, hs⟩ = true) (henc : encL ⟨2, p, false, [], 1, hs⟩ = ([2] ++ packL p) ++ hs.flatten) (a : Option Addr) (c : Nat) (w : World) (hT : Tx w a hs) :
    Says 37 #[.agg (itC ⟨2, p, false, [], 1, hs⟩ a c)] (.string (bs (encL ⟨2, p, false, [], 1, hs⟩))) w := by
  have hS := good_small _ hg
  have HT : Hid (Tx w a hs) := hT
  have G3 := c_rgood ⟨2, p, false, [], 1, hs⟩ hS a c
  have hln := enc_len _ hg
  rw [hg] at G3
  have hel : (encL ⟨2, p, false, [], 1, hs⟩).length ≤ 533 := by rw [hln.1]; exact hln.2.1
  have HE : Hid (([2] ++ packL p) ++ hs.flatten = encL ⟨2, p, false, [], 1, hs⟩) := henc.symm
  have hel2 : (([2] ++ packL p)).length + hs.flatten.length ≤ 533 := by rw [← List.length_append, ← henc]; exact hel
  have H32 := hide h32
  have hpk : (bs (packL p)).size ≤ 20 := by rw [bs_size, pack_length]; have := (goodB_parts hp).1; omega
  have HP := c_pack p hp
  have hz2 : (bs [2]).size = 1 := rfl
  generalize encL ⟨2, p, false, [], 1, hs⟩ = E at *
  clear hT hS hg hln hel h32 henc
  show Says 37 #[.agg #[.int .i64 2, .string (bs p), .bool false, .string (bs []), .int .i64 1, .slice a hs.length c]] (.string (bs E)) w
  replace G3 : ∀ W, Tx W a hs → Says 59 #[.agg #[.int .i64 2, .string (bs p), .bool false, .string (bs []), .int .i64 1, .slice a hs.length c]] (.bool true) W := G3
  have s3 : (Tryd.prog.info? 32).map (·.size) = some (#[.int .i64 2, .string (bs p), .bool false, .string (bs []), .int .i64 1, .slice a hs.length c] : Array Value).size := i24
  generalize hsp : bs p = sp at *
  generalize hsv : bs [] = sv at *
  generalize hsk : bs (packL p) = sk at *
  go_enter Tryd.func37, Tryd.ntmps37
  go_wp2_with (first
    | (refine wpList_box_at (by rfl) 1 (by rfl) 32 _ (by rfl) #[.int .i64 2, .string sp, .bool false, .string sv, .int .i64 1, .slice a hs.length c] (by rfl) ?_; intro Wa R3 N)
    | refine wpList_load_want (by rfl) 32 _ (by rfl) w.heap.size (by rfl) 32 _ _ R3 Tryd.underlying32 rfl s3 ?_
    | refine wpList_load_row (by rfl) 32 _ (by rfl) w.heap.size (by rfl) 32 _ (0, 0) _ R3 Tryd.underlying32 rfl s3 ?_)
  refine (G3 _ (HT.out.after N)).mono ?_
  rintro _ W1 ⟨rfl, k⟩
  replace R3 := R3.after k
  replace N := N.trans k
  clear k G3
  have c0W1 : W1.cell? ⟨w.heap.size, 0, none⟩ = some (.int .i64 2) := R3.cell 0
  have c1W1 : W1.cell? ⟨w.heap.size, 1, none⟩ = some (.string sp) := R3.cell 1
  have c2W1 : W1.cell? ⟨w.heap.size, 2, none⟩ = some (.bool false) := R3.cell 2
  have c3W1 : W1.cell? ⟨w.heap.size, 3, none⟩ = some (.string sv) := R3.cell 3
  have c4W1 : W1.cell? ⟨w.heap.size, 4, none⟩ = some (.int .i64 1) := R3.cell 4
  have c5W1 : W1.cell? ⟨w.heap.size, 5, none⟩ = some (.slice a hs.length c) := R3.cell 5
  go_wp2_with (first | (refine wpList_b1 (by rfl) 11 (by rfl) _ (by rfl) _ (by rfl) ?_; intro B11 RB NB; have hcv11 := conv_one B11 _ 2 (RB.cell 0); replace R3 := R3.after NB; replace N := N.trans NB; clear RB NB; have c0B11 : B11.cell? ⟨w.heap.size, 0, none⟩ = some (.int .i64 2) := R3.cell 0; have c1B11 : B11.cell? ⟨w.heap.size, 1, none⟩ = some (.string sp) := R3.cell 1; have c2B11 : B11.cell? ⟨w.heap.size, 2, none⟩ = some (.bool false) := R3.cell 2; have c3B11 : B11.cell? ⟨w.heap.size, 3, none⟩ = some (.string sv) := R3.cell 3; have c4B11 : B11.cell? ⟨w.heap.size, 4, none⟩ = some (.int .i64 1) := R3.cell 4; have c5B11 : B11.cell? ⟨w.heap.size, 5, none⟩ = some (.slice a hs.length c) := R3.cell 5))
  refine (HP _).mono ?_
  rintro _ W5 ⟨rfl, k⟩
  replace R3 := R3.after k
  replace N := N.trans k
  clear k
  have hfield := field_text sk true W5
  have c0W5 : W5.cell? ⟨w.heap.size, 0, none⟩ = some (.int .i64 2) := R3.cell 0
  have c1W5 : W5.cell? ⟨w.heap.size, 1, none⟩ = some (.string sp) := R3.cell 1
  have c2W5 : W5.cell? ⟨w.heap.size, 2, none⟩ = some (.bool false) := R3.cell 2
  have c3W5 : W5.cell? ⟨w.heap.size, 3, none⟩ = some (.string sv) := R3.cell 3
  have c4W5 : W5.cell? ⟨w.heap.size, 4, none⟩ = some (.int .i64 1) := R3.cell 4
  have c5W5 : W5.cell? ⟨w.heap.size, 5, none⟩ = some (.slice a hs.length c) := R3.cell 5
  go_wp2_with fail
  have HTL := hide (HT.out.after N)
  go_loop [3, 4] (fun s i => ∃ k : Nat, k ≤ hs.length ∧ i = .int .i64 (k : Int) ∧ s = .string (bs (([2] ++ packL p) ++ (hs.take k).flatten))) (fun _ i => hs.length - (intOf i).toNat)
  case atStart => exact ⟨0, by omega, rfl, by rw [List.take_zero, List.flatten_nil, List.append_nil]; subst hsk; rw [bs_add]⟩
  case round =>
    obtain ⟨k, hk, rfl, rfl⟩ := hrel
    by_cases hlt : k < hs.length
    · have hlt' : (k : Int) < (hs.length : Int) := by omega
      obtain ⟨x, rfl, hx⟩ := HTL.out (by omega)
      have hk' : hs[k]? = some hs[k] := List.getElem?_eq_getElem hlt
      have hcell := hx k _ hk'
      have hsz : (bs hs[k]).size = 32 := H32.out _ (List.getElem_mem hlt)
      have hft := flat_take hs k _ hk'
      have hfl : (hs.take k).flatten.length ≤ hs.flatten.length := by
        have := congrArg List.length (congrArg List.flatten (List.take_append_drop k hs))
        rw [List.flatten_append, List.length_append] at this
        omega
      have hszp : (bs (([2] ++ packL p) ++ (hs.take k).flatten)).size ≤ 600 := by rw [bs_size, List.length_append]; omega
      have HN : Hid (bs (([2] ++ packL p) ++ (hs.take k).flatten) ++ bs hs[k] = bs (([2] ++ packL p) ++ (hs.take (k + 1)).flatten)) := by
        show _ = _
        rw [hft, bs_add, List.append_assoc]
      clear hx hk' hft hfl
      generalize bs hs[k] = q at *
      generalize bs (([2] ++ packL p) ++ (hs.take k).flatten) = sa at *
      go_wp2_with fail
      go_round
      case rel => exact ⟨k + 1, by omega, by go_num, by rw [HN.out]⟩
      case measure => simp [intOf]; omega
    · obtain rfl : k = hs.length := by omega
      have HF : Hid (bs (([2] ++ packL p) ++ (hs.take hs.length).flatten) = bs E) := by show _ = _; rw [List.take_length, HE.out]
      generalize bs (([2] ++ packL p) ++ (hs.take hs.length).flatten) = sa at *
      go_wp2_with fail
      go_ret
      exact ⟨by rw [HF.out]; rfl, N⟩

set_option maxHeartbeats 4000000 in
theorem renc_full (v : List UInt8) (hv : v.length ≤ 16) (cb : UInt8) (hcb : UInt8.ofNat v.length = cb) (m : Nat) (hm : m < 65536) (mh : Nat) (hmh : m / 256 = mh) (ch cl : UInt8) (hch : UInt8.ofNat mh = ch) (hcl : UInt8.ofNat m = cl) (hs : List (List UInt8)) (hl : hs.length ≤ 16) (h32 : ∀ x ∈ hs, x.length = 32) (hg : goodI ⟨3, [], true, v, (m : Int), hs⟩ = true) (henc : encL ⟨3, [], true, v, (m : Int), hs⟩ = ([3] ++ [ch, cl] ++ ([1, cb] ++ v)) ++ hs.flatten) (a : Option Addr) (c : Nat) (w : World) (hT : Tx w a hs) :
    Says 37 #[.agg (itC ⟨3, [], true, v, (m : Int), hs⟩ a c)] (.string (bs (encL ⟨3, [], true, v, (m : Int), hs⟩))) w := by
  have hS := good_small _ hg
  have HT : Hid (Tx w a hs) := hT
  have G3 := c_rgood ⟨3, [], true, v, (m : Int), hs⟩ hS a c
  have hln := enc_len _ hg
  rw [hg] at G3
  have hel : (encL ⟨3, [], true, v, (m : Int), hs⟩).length ≤ 533 := by rw [hln.1]; exact hln.2.1
  have HE : Hid (([3] ++ [ch, cl] ++ ([1, cb] ++ v)) ++ hs.flatten = encL ⟨3, [], true, v, (m : Int), hs⟩) := henc.symm
  have hel2 : (([3] ++ [ch, cl] ++ ([1, cb] ++ v))).length + hs.flatten.length ≤ 533 := by rw [← List.length_append, ← henc]; exact hel
  have H32 := hide h32
  have HCh : Hid ((mh : Int) = (ch.toNat : Int)) := by show _ = _; rw [← hch, UInt8.toNat_ofNat']; omega
  have HCl : Hid ((m : Int) % 256 = (cl.toNat : Int)) := by show _ = _; rw [← hcl]; exact byte_wrap m
  have hm255 : mh ≤ 255 := by omega
  have hsh : (m : Int) / 256 = (mh : Int) := by omega
  clear hmh hch hcl
  have hz3 : (bs [ch, cl]).size = 2 := rfl
  have hz2 : (bs [3]).size = 1 := rfl
  have hvl : (bs v).size ≤ 16 := hv
  have HB : Hid (((bs v).size : Int) = (cb.toNat : Int)) := by show _ = _; rw [← hcb, bs_size, UInt8.toNat_ofNat']; omega
  clear hcb
  have hz1 : (bs [1, cb]).size = 2 := rfl
  generalize encL ⟨3, [], true, v, (m : Int), hs⟩ = E at *
  clear hT hS hg hln hel h32 henc
  show Says 37 #[.agg #[.int .i64 3, .string (bs []), .bool true, .string (bs v), .int .i64 (m : Int), .slice a hs.length c]] (.string (bs E)) w
  replace G3 : ∀ W, Tx W a hs → Says 59 #[.agg #[.int .i64 3, .string (bs []), .bool true, .string (bs v), .int .i64 (m : Int), .slice a hs.length c]] (.bool true) W := G3
  have s3 : (Tryd.prog.info? 32).map (·.size) = some (#[.int .i64 3, .string (bs []), .bool true, .string (bs v), .int .i64 (m : Int), .slice a hs.length c] : Array Value).size := i24
  generalize hsp : bs [] = sp at *
  generalize hsv : bs v = sv at *
  go_enter Tryd.func37, Tryd.ntmps37
  go_wp2_with (first
    | (refine wpList_box_at (by rfl) 1 (by rfl) 32 _ (by rfl) #[.int .i64 3, .string sp, .bool true, .string sv, .int .i64 (m : Int), .slice a hs.length c] (by rfl) ?_; intro Wa R3 N)
    | refine wpList_load_want (by rfl) 32 _ (by rfl) w.heap.size (by rfl) 32 _ _ R3 Tryd.underlying32 rfl s3 ?_
    | refine wpList_load_row (by rfl) 32 _ (by rfl) w.heap.size (by rfl) 32 _ (0, 0) _ R3 Tryd.underlying32 rfl s3 ?_)
  refine (G3 _ (HT.out.after N)).mono ?_
  rintro _ W1 ⟨rfl, k⟩
  replace R3 := R3.after k
  replace N := N.trans k
  clear k G3
  have c0W1 : W1.cell? ⟨w.heap.size, 0, none⟩ = some (.int .i64 3) := R3.cell 0
  have c1W1 : W1.cell? ⟨w.heap.size, 1, none⟩ = some (.string sp) := R3.cell 1
  have c2W1 : W1.cell? ⟨w.heap.size, 2, none⟩ = some (.bool true) := R3.cell 2
  have c3W1 : W1.cell? ⟨w.heap.size, 3, none⟩ = some (.string sv) := R3.cell 3
  have c4W1 : W1.cell? ⟨w.heap.size, 4, none⟩ = some (.int .i64 (m : Int)) := R3.cell 4
  have c5W1 : W1.cell? ⟨w.heap.size, 5, none⟩ = some (.slice a hs.length c) := R3.cell 5
  go_wp2_with (first | (refine wpList_b1 (by rfl) 11 (by rfl) _ (by rfl) _ (by rfl) ?_; intro B11 RB NB; have hcv11 := conv_one B11 _ 3 (RB.cell 0); replace R3 := R3.after NB; replace N := N.trans NB; clear RB NB; have c0B11 : B11.cell? ⟨w.heap.size, 0, none⟩ = some (.int .i64 3) := R3.cell 0; have c1B11 : B11.cell? ⟨w.heap.size, 1, none⟩ = some (.string sp) := R3.cell 1; have c2B11 : B11.cell? ⟨w.heap.size, 2, none⟩ = some (.bool true) := R3.cell 2; have c3B11 : B11.cell? ⟨w.heap.size, 3, none⟩ = some (.string sv) := R3.cell 3; have c4B11 : B11.cell? ⟨w.heap.size, 4, none⟩ = some (.int .i64 (m : Int)) := R3.cell 4; have c5B11 : B11.cell? ⟨w.heap.size, 5, none⟩ = some (.slice a hs.length c) := R3.cell 5) | (refine wpList_b2 (by rfl) 24 (by rfl) _ _ (by rfl) _ _ (by rfl) (by rfl) ?_; intro B24 RB NB; have hcv24 := conv_two B24 _ ch cl (by rw [← HCh.out, ← HCl.out]; exact RB); replace R3 := R3.after NB; replace N := N.trans NB; clear RB NB; have c0B24 : B24.cell? ⟨w.heap.size, 0, none⟩ = some (.int .i64 3) := R3.cell 0; have c1B24 : B24.cell? ⟨w.heap.size, 1, none⟩ = some (.string sp) := R3.cell 1; have c2B24 : B24.cell? ⟨w.heap.size, 2, none⟩ = some (.bool true) := R3.cell 2; have c3B24 : B24.cell? ⟨w.heap.size, 3, none⟩ = some (.string sv) := R3.cell 3; have c4B24 : B24.cell? ⟨w.heap.size, 4, none⟩ = some (.int .i64 (m : Int)) := R3.cell 4; have c5B24 : B24.cell? ⟨w.heap.size, 5, none⟩ = some (.slice a hs.length c) := R3.cell 5) | (refine wpList_b2 (by rfl) 34 (by rfl) _ _ (by rfl) _ _ (by rfl) (by rfl) ?_; intro B34 RB NB; have hcv34 := conv_two B34 _ 1 cb (by rw [← HB.out]; exact RB); replace R3 := R3.after NB; replace N := N.trans NB; clear RB NB; have c0B34 : B34.cell? ⟨w.heap.size, 0, none⟩ = some (.int .i64 3) := R3.cell 0; have c1B34 : B34.cell? ⟨w.heap.size, 1, none⟩ = some (.string sp) := R3.cell 1; have c2B34 : B34.cell? ⟨w.heap.size, 2, none⟩ = some (.bool true) := R3.cell 2; have c3B34 : B34.cell? ⟨w.heap.size, 3, none⟩ = some (.string sv) := R3.cell 3; have c4B34 : B34.cell? ⟨w.heap.size, 4, none⟩ = some (.int .i64 (m : Int)) := R3.cell 4; have c5B34 : B34.cell? ⟨w.heap.size, 5, none⟩ = some (.slice a hs.length c) := R3.cell 5))
  have HTL := hide (HT.out.after N)
  go_loop [3, 4] (fun s i => ∃ k : Nat, k ≤ hs.length ∧ i = .int .i64 (k : Int) ∧ s = .string (bs (([3] ++ [ch, cl] ++ ([1, cb] ++ v)) ++ (hs.take k).flatten))) (fun _ i => hs.length - (intOf i).toNat)
  case atStart => exact ⟨0, by omega, rfl, by rw [List.take_zero, List.flatten_nil, List.append_nil]; subst hsv; rw [bs_add, bs_add, bs_add]⟩
  case round =>
    obtain ⟨k, hk, rfl, rfl⟩ := hrel
    by_cases hlt : k < hs.length
    · have hlt' : (k : Int) < (hs.length : Int) := by omega
      obtain ⟨x, rfl, hx⟩ := HTL.out (by omega)
      have hk' : hs[k]? = some hs[k] := List.getElem?_eq_getElem hlt
      have hcell := hx k _ hk'
      have hsz : (bs hs[k]).size = 32 := H32.out _ (List.getElem_mem hlt)
      have hft := flat_take hs k _ hk'
      have hfl : (hs.take k).flatten.length ≤ hs.flatten.length := by
        have := congrArg List.length (congrArg List.flatten (List.take_append_drop k hs))
        rw [List.flatten_append, List.length_append] at this
        omega
      have hszp : (bs (([3] ++ [ch, cl] ++ ([1, cb] ++ v)) ++ (hs.take k).flatten)).size ≤ 600 := by rw [bs_size, List.length_append]; omega
      have HN : Hid (bs (([3] ++ [ch, cl] ++ ([1, cb] ++ v)) ++ (hs.take k).flatten) ++ bs hs[k] = bs (([3] ++ [ch, cl] ++ ([1, cb] ++ v)) ++ (hs.take (k + 1)).flatten)) := by
        show _ = _
        rw [hft, bs_add, List.append_assoc]
      clear hx hk' hft hfl
      generalize bs hs[k] = q at *
      generalize bs (([3] ++ [ch, cl] ++ ([1, cb] ++ v)) ++ (hs.take k).flatten) = sa at *
      go_wp2_with fail
      go_round
      case rel => exact ⟨k + 1, by omega, by go_num, by rw [HN.out]⟩
      case measure => simp [intOf]; omega
    · obtain rfl : k = hs.length := by omega
      have HF : Hid (bs (([3] ++ [ch, cl] ++ ([1, cb] ++ v)) ++ (hs.take hs.length).flatten) = bs E) := by show _ = _; rw [List.take_length, HE.out]
      generalize bs (([3] ++ [ch, cl] ++ ([1, cb] ++ v)) ++ (hs.take hs.length).flatten) = sa at *
      go_wp2_with fail
      go_ret
      exact ⟨by rw [HF.out]; rfl, N⟩

set_option maxHeartbeats 4000000 in
theorem renc_bare  (m : Nat) (hm : m < 65536) (mh : Nat) (hmh : m / 256 = mh) (ch cl : UInt8) (hch : UInt8.ofNat mh = ch) (hcl : UInt8.ofNat m = cl) (hs : List (List UInt8)) (hl : hs.length ≤ 16) (h32 : ∀ x ∈ hs, x.length = 32) (hg : goodI ⟨3, [], false, [], (m : Int), hs⟩ = true) (henc : encL ⟨3, [], false, [], (m : Int), hs⟩ = ([3] ++ [ch, cl] ++ [0]) ++ hs.flatten) (a : Option Addr) (c : Nat) (w : World) (hT : Tx w a hs) :
    Says 37 #[.agg (itC ⟨3, [], false, [], (m : Int), hs⟩ a c)] (.string (bs (encL ⟨3, [], false, [], (m : Int), hs⟩))) w := by
  have hS := good_small _ hg
  have HT : Hid (Tx w a hs) := hT
  have G3 := c_rgood ⟨3, [], false, [], (m : Int), hs⟩ hS a c
  have hln := enc_len _ hg
  rw [hg] at G3
  have hel : (encL ⟨3, [], false, [], (m : Int), hs⟩).length ≤ 533 := by rw [hln.1]; exact hln.2.1
  have HE : Hid (([3] ++ [ch, cl] ++ [0]) ++ hs.flatten = encL ⟨3, [], false, [], (m : Int), hs⟩) := henc.symm
  have hel2 : (([3] ++ [ch, cl] ++ [0])).length + hs.flatten.length ≤ 533 := by rw [← List.length_append, ← henc]; exact hel
  have H32 := hide h32
  have HCh : Hid ((mh : Int) = (ch.toNat : Int)) := by show _ = _; rw [← hch, UInt8.toNat_ofNat']; omega
  have HCl : Hid ((m : Int) % 256 = (cl.toNat : Int)) := by show _ = _; rw [← hcl]; exact byte_wrap m
  have hm255 : mh ≤ 255 := by omega
  have hsh : (m : Int) / 256 = (mh : Int) := by omega
  clear hmh hch hcl
  have hz3 : (bs [ch, cl]).size = 2 := rfl
  have hz2 : (bs [3]).size = 1 := rfl
  generalize encL ⟨3, [], false, [], (m : Int), hs⟩ = E at *
  clear hT hS hg hln hel h32 henc
  show Says 37 #[.agg #[.int .i64 3, .string (bs []), .bool false, .string (bs []), .int .i64 (m : Int), .slice a hs.length c]] (.string (bs E)) w
  replace G3 : ∀ W, Tx W a hs → Says 59 #[.agg #[.int .i64 3, .string (bs []), .bool false, .string (bs []), .int .i64 (m : Int), .slice a hs.length c]] (.bool true) W := G3
  have s3 : (Tryd.prog.info? 32).map (·.size) = some (#[.int .i64 3, .string (bs []), .bool false, .string (bs []), .int .i64 (m : Int), .slice a hs.length c] : Array Value).size := i24
  generalize hsp : bs [] = sp at *
  generalize hsv : bs [] = sv at *
  go_enter Tryd.func37, Tryd.ntmps37
  go_wp2_with (first
    | (refine wpList_box_at (by rfl) 1 (by rfl) 32 _ (by rfl) #[.int .i64 3, .string sp, .bool false, .string sp, .int .i64 (m : Int), .slice a hs.length c] (by rfl) ?_; intro Wa R3 N)
    | refine wpList_load_want (by rfl) 32 _ (by rfl) w.heap.size (by rfl) 32 _ _ R3 Tryd.underlying32 rfl s3 ?_
    | refine wpList_load_row (by rfl) 32 _ (by rfl) w.heap.size (by rfl) 32 _ (0, 0) _ R3 Tryd.underlying32 rfl s3 ?_)
  refine (G3 _ (HT.out.after N)).mono ?_
  rintro _ W1 ⟨rfl, k⟩
  replace R3 := R3.after k
  replace N := N.trans k
  clear k G3
  have c0W1 : W1.cell? ⟨w.heap.size, 0, none⟩ = some (.int .i64 3) := R3.cell 0
  have c1W1 : W1.cell? ⟨w.heap.size, 1, none⟩ = some (.string sp) := R3.cell 1
  have c2W1 : W1.cell? ⟨w.heap.size, 2, none⟩ = some (.bool false) := R3.cell 2
  have c3W1 : W1.cell? ⟨w.heap.size, 3, none⟩ = some (.string sp) := R3.cell 3
  have c4W1 : W1.cell? ⟨w.heap.size, 4, none⟩ = some (.int .i64 (m : Int)) := R3.cell 4
  have c5W1 : W1.cell? ⟨w.heap.size, 5, none⟩ = some (.slice a hs.length c) := R3.cell 5
  go_wp2_with (first | (refine wpList_b1 (by rfl) 11 (by rfl) _ (by rfl) _ (by rfl) ?_; intro B11 RB NB; have hcv11 := conv_one B11 _ 3 (RB.cell 0); replace R3 := R3.after NB; replace N := N.trans NB; clear RB NB; have c0B11 : B11.cell? ⟨w.heap.size, 0, none⟩ = some (.int .i64 3) := R3.cell 0; have c1B11 : B11.cell? ⟨w.heap.size, 1, none⟩ = some (.string sp) := R3.cell 1; have c2B11 : B11.cell? ⟨w.heap.size, 2, none⟩ = some (.bool false) := R3.cell 2; have c3B11 : B11.cell? ⟨w.heap.size, 3, none⟩ = some (.string sp) := R3.cell 3; have c4B11 : B11.cell? ⟨w.heap.size, 4, none⟩ = some (.int .i64 (m : Int)) := R3.cell 4; have c5B11 : B11.cell? ⟨w.heap.size, 5, none⟩ = some (.slice a hs.length c) := R3.cell 5) | (refine wpList_b2 (by rfl) 24 (by rfl) _ _ (by rfl) _ _ (by rfl) (by rfl) ?_; intro B24 RB NB; have hcv24 := conv_two B24 _ ch cl (by rw [← HCh.out, ← HCl.out]; exact RB); replace R3 := R3.after NB; replace N := N.trans NB; clear RB NB; have c0B24 : B24.cell? ⟨w.heap.size, 0, none⟩ = some (.int .i64 3) := R3.cell 0; have c1B24 : B24.cell? ⟨w.heap.size, 1, none⟩ = some (.string sp) := R3.cell 1; have c2B24 : B24.cell? ⟨w.heap.size, 2, none⟩ = some (.bool false) := R3.cell 2; have c3B24 : B24.cell? ⟨w.heap.size, 3, none⟩ = some (.string sp) := R3.cell 3; have c4B24 : B24.cell? ⟨w.heap.size, 4, none⟩ = some (.int .i64 (m : Int)) := R3.cell 4; have c5B24 : B24.cell? ⟨w.heap.size, 5, none⟩ = some (.slice a hs.length c) := R3.cell 5))
  have HTL := hide (HT.out.after N)
  go_loop [3, 4] (fun s i => ∃ k : Nat, k ≤ hs.length ∧ i = .int .i64 (k : Int) ∧ s = .string (bs (([3] ++ [ch, cl] ++ [0]) ++ (hs.take k).flatten))) (fun _ i => hs.length - (intOf i).toNat)
  case atStart => exact ⟨0, by omega, rfl, by rw [List.take_zero, List.flatten_nil, List.append_nil]; rw [bs_add]; exact congrArg Value.string (bs_add _ [0])⟩
  case round =>
    obtain ⟨k, hk, rfl, rfl⟩ := hrel
    by_cases hlt : k < hs.length
    · have hlt' : (k : Int) < (hs.length : Int) := by omega
      obtain ⟨x, rfl, hx⟩ := HTL.out (by omega)
      have hk' : hs[k]? = some hs[k] := List.getElem?_eq_getElem hlt
      have hcell := hx k _ hk'
      have hsz : (bs hs[k]).size = 32 := H32.out _ (List.getElem_mem hlt)
      have hft := flat_take hs k _ hk'
      have hfl : (hs.take k).flatten.length ≤ hs.flatten.length := by
        have := congrArg List.length (congrArg List.flatten (List.take_append_drop k hs))
        rw [List.flatten_append, List.length_append] at this
        omega
      have hszp : (bs (([3] ++ [ch, cl] ++ [0]) ++ (hs.take k).flatten)).size ≤ 600 := by rw [bs_size, List.length_append]; omega
      have HN : Hid (bs (([3] ++ [ch, cl] ++ [0]) ++ (hs.take k).flatten) ++ bs hs[k] = bs (([3] ++ [ch, cl] ++ [0]) ++ (hs.take (k + 1)).flatten)) := by
        show _ = _
        rw [hft, bs_add, List.append_assoc]
      clear hx hk' hft hfl
      generalize bs hs[k] = q at *
      generalize bs (([3] ++ [ch, cl] ++ [0]) ++ (hs.take k).flatten) = sa at *
      go_wp2_with fail
      go_round
      case rel => exact ⟨k + 1, by omega, by go_num, by rw [HN.out]⟩
      case measure => simp [intOf]; omega
    · obtain rfl : k = hs.length := by omega
      have HF : Hid (bs (([3] ++ [ch, cl] ++ [0]) ++ (hs.take hs.length).flatten) = bs E) := by show _ = _; rw [List.take_length, HE.out]
      generalize bs (([3] ++ [ch, cl] ++ [0]) ++ (hs.take hs.length).flatten) = sa at *
      go_wp2_with fail
      go_ret
      exact ⟨by rw [HF.out]; rfl, N⟩

end Go.Proofs.YtjikdbmdaeonlaaDoor.No
namespace Go.Proofs.YtjikdbmdaeonlaaDoor.No
open Go.RowKit
set_option maxRecDepth 20000
set_option linter.unusedVariables false

set_option maxHeartbeats 1000000 in
theorem renc_no (I : It) (hS : Small I) (hg : goodI I = false) (a : Option Addr) (c : Nat) (w : World) (hT : Tx w a I.hs) :
    Says 37 #[.agg (itC I a c)] (.string (bs [])) w := by
  have HT : Hid (Tx w a I.hs) := hT
  have s3 := itC_size I a c
  have G3 := c_rgood I hS a c
  rw [hg] at G3
  clear hT hS hg
  generalize itC I a c = C at *
  go_enter Tryd.func37, Tryd.ntmps37
  go_wp2_with (first
    | (refine wpList_box_at (by rfl) 1 (by rfl) 32 _ (by rfl) C (by rfl) ?_; intro Wa R3 N)
    | refine wpList_load_want (by rfl) 32 _ (by rfl) w.heap.size (by rfl) 32 _ _ R3 Tryd.underlying32 rfl s3 ?_
    | refine wpList_load_row (by rfl) 32 _ (by rfl) w.heap.size (by rfl) 32 _ (0, 0) _ R3 Tryd.underlying32 rfl s3 ?_)
  refine (G3 _ (HT.out.after N)).mono ?_
  rintro _ W1 ⟨rfl, k⟩
  go_wp2_with fail
  go_ret
  exact ⟨rfl, N.trans k⟩
theorem c_renc (I : It) (hS : Small I) (a : Option Addr) (c : Nat) : ∀ W, Tx W a I.hs → Says 37 #[.agg (itC I a c)] (.string (bs (encB I))) W := fun W hT => by
  unfold encB
  cases hg : goodI I
  · exact renc_no I hS hg a c W hT
  · rw [if_pos rfl]
    have hg2 := hg
    rw [goodI_iff] at hg2
    cases hg2 with
    | leaf p v hp hv => exact renc_leaf p v hp hv _ rfl [] (by simp) (fun x hx => by cases hx) hg (by unfold encL Pt.text ptOf; simp [pad16]) a c W hT
    | ext p h hp h0 hh => exact renc_ext p hp [h] (by simp) (fun x hx => by simp only [List.mem_singleton] at hx; subst hx; exact hh) hg (by unfold encL Pt.text ptOf; simp [pad16]) a c W hT
    | branch has v m hs hv hv2 hm h2 hl hh =>
      have hl16 : hs.length ≤ 16 := by have := popN_le m; omega
      cases has with
      | true => exact renc_full v hv _ rfl m hm _ rfl _ _ rfl rfl hs hl16 hh hg (by unfold encL Pt.text ptOf; simp [pad16_flat]) a c W hT
      | false =>
        obtain rfl := hv2 rfl
        exact renc_bare m hm _ rfl _ _ rfl rfl hs hl16 hh hg (by unfold encL Pt.text ptOf; simp [pad16_flat]) a c W hT
theorem enc_pos (I : It) (h : goodI I = true) : encL I ≠ [] := fun e => by
  have := (enc_len I h).1
  rw [e] at this
  unfold lenN at this
  simp only [List.length_nil] at this
  omega
end Go.Proofs.YtjikdbmdaeonlaaDoor.No
