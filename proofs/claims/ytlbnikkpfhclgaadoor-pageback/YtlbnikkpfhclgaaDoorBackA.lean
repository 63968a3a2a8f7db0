/-
  A text's bytes in memory, that may be written; a byte turned; a page's number told from another.
-/
import Derived.Test.YtlbnikkpfhclgaaDoorWoke
import Derived.Lib.ConvBytes
namespace Go.Proofs.YtlbnikkpfhclgaaDoor
open Go.RowKit

theorem xor_u8 (a b : Nat) (ha : a < 256) (hb : b < 256) : bits .xor .u8 (a : Int) (b : Int) = ((a ^^^ b : Nat) : Int) := by
  have hx : a ^^^ b < 256 := Nat.xor_lt_two_pow (n := 8) ha hb
  have h1 : (BitVec.ofInt 8 (a : Int)).toNat = a := by
    rw [BitVec.ofInt_natCast, BitVec.toNat_ofNat]; exact Nat.mod_eq_of_lt (by omega)
  have h2 : (BitVec.ofInt 8 (b : Int)).toNat = b := by
    rw [BitVec.ofInt_natCast, BitVec.toNat_ofNat]; exact Nat.mod_eq_of_lt (by omega)
  show IntKind.u8.wrap ((BitVec.ofInt 8 (a : Int) ^^^ BitVec.ofInt 8 (b : Int)).toNat : Int) = _
  rw [BitVec.toNat_xor, h1, h2, IntKind.wrap_u8]
  omega
/-- The bytes lie in block B, and may be written. -/
def Lies (w : World) (B : Nat) (l : List UInt8) : Prop :=
  (∀ (j : Nat) c, l[j]? = some c → w.cell? ⟨B, j, none⟩ = some (.int .u8 (c.toNat : Int))) ∧ ∀ j : Nat, j < l.length → w.frozen? ⟨B, j, none⟩ = false
theorem Lies.set {w : World} {B : Nat} {l : List UInt8} (h : Lies w B l) (j : Nat) (hj : j < l.length) (c : UInt8) : Lies (w.setCell ⟨B, j, none⟩ (.int .u8 (c.toNat : Int))) B (l.set j c) := by
  refine ⟨fun i d hd => ?_, fun i hi => ?_⟩
  · by_cases e : i = j
    · subst e
      rw [List.getElem?_set_self hj] at hd
      cases hd
      exact World.cell?_setCell_same' _ _ _ (by rw [h.1 i _ (List.getElem?_eq_getElem hj)]; rfl)
    · rw [List.getElem?_set_ne (Ne.symm e)] at hd
      rw [World.cell?_setCell_other _ _ _ _ (by simp)]
      exact h.1 i d hd
  · rw [List.length_set] at hi
    have := h.2 i hi
    simpa using this
theorem Lies.lt {w : World} {B : Nat} {l : List UInt8} (h : Lies w B l) (h0 : 0 < l.length) : B < w.heap.size := World.block_lt_of_cell? w _ (h.1 0 _ (List.getElem?_eq_getElem h0))
theorem Lies.after {w w' : World} {B : Nat} {l : List UInt8} (h : Lies w B l) (k : New w w') (h0 : 0 < l.length) : Lies w' B l := by
  have hb := h.lt h0
  refine ⟨fun j c hc => (k.cell (p := ⟨B, j, none⟩) hb).trans (h.1 j c hc), fun j hj => ?_⟩
  rw [← h.2 j hj]
  unfold World.frozen?
  rw [k.block B hb]
theorem conv_text (s : ByteArray) (w : World) : ∃ (w1 : World) (cap : Nat), (convert 9 39 (.string s)).run Tryd.prog w = .ok (.slice (some ⟨w.heap.size, 0, none⟩) s.size cap) w1 ∧ New w w1 ∧ Lies w1 w.heap.size (L s) := by
  refine ⟨_, _, Lib.run_convert_string_bytes w 9 39 5 s Tryd.underlying9 Tryd.underlying39 Tryd.underlying5, ?_, ?_, ?_⟩
  · exact ⟨rfl, rfl, rfl, by rw [Lib.bytesWorld_size]; omega, fun k hk => Lib.bytesWorld_at_old w 5 s k (by omega)⟩
  · intro j c hc
    have hj : j < s.size := by rw [← L_size]; exact (List.getElem?_eq_some_iff.1 hc).1
    rw [Lib.bytesWorld_cell w 5 s j hj]
    have : s.data.toList.getD j 0 = c := by rw [List.getD_eq_getElem?_getD]; rw [show s.data.toList[j]? = some c from hc]; rfl
    rw [this]
  · intro j hj
    rw [L_size] at hj
    have hb : j < (Lib.bytesCells w 5 s).size := by
      unfold Lib.bytesCells
      simp
      have : s.data.size = s.size := rfl
      omega
    unfold World.frozen?
    simp only [Lib.bytesWorld_at_new]
    simp
    omega
theorem conv_back {w : World} {B n cap : Nat} {l : List UInt8} (hn : l.length = n) (h : Lies w B l) :
    (convert 39 9 (.slice (some ⟨B, 0, none⟩) n cap)).run Tryd.prog w = .ok (.string (bs l)) w := by
  subst hn
  exact run_convert_bytes_back w 39 9 5 ⟨B, 0, none⟩ cap l Tryd.underlying39 Tryd.underlying5 Tryd.underlying9 (fun j hj => by
    have ha : (Addr.add ⟨B, 0, none⟩ j) = ⟨B, j, none⟩ := by simp [Addr.add]; intro h; exact h.symm
    rw [ha]
    exact h.1 j _ (List.getElem?_eq_getElem hj))

theorem xor_bytes (c d : UInt8) : bits .xor .u8 (c.toNat : Int) (d.toNat : Int) = ((c ^^^ d).toNat : Int) := by
  rw [xor_u8 _ _ c.toNat_lt d.toNat_lt, UInt8.toNat_xor]
/-- At another number a page's bytes are none's. -/
theorem other_number {k n g : Nat} (hk : k < 256) (hn : n < 65536) (hg : g < 2147483648) {s : ByteArray} (hs : s.size ≤ 243) {a : Int} (ha : a ≠ (n : Int)) :
    ∀ (k' n' g' : Nat) (s' : ByteArray), 1 ≤ k' → k' < 256 → n' < 65536 → a = (n' : Int) → g' < 2147483648 → s'.size ≤ 243 → bs (pageB (frOf k n g (L s))) ≠ bs (pageB (frOf k' n' g' (L s'))) := fun k' n' g' s' _ h2 h3 h4 h5 h6 h => by
  have h7 := congrArg frIn (bs_inj h)
  rw [in_page (frOf_ok hk hn (by omega) (by rw [L_size]; exact hs)), in_page (frOf_ok h2 h3 (by omega) (by rw [L_size]; exact h6))] at h7
  have h8 : n = n' := congrArg Fr.n h7
  omega
theorem eq4 (y z : List UInt8) (hy : y.length = 4) (hz : z.length = 4) (w : World) : (Op.equalIn 10000 37 (.agg (cellsL y).toArray) (.agg (cellsL z).toArray)).run Tryd.prog w = .ok (y == z) w := eq_bytes 9998 4 37 Tryd.underlying37 y z hy hz w
theorem guard37 : Tryd.prog.eqGuardType Tryd.prog.depth 37 = false := by kernel_rfl
theorem built37_none : Tryd.prog.built 37 [] = some (cellsL [0, 0, 0, 0]).toArray := by kernel_rfl
theorem i37 : (Tryd.prog.info? 37).map (·.size) = some 4 := by kernel_rfl
theorem four_zero {y : List UInt8} (hy : y.length = 4) : (y == [0, 0, 0, 0]) = decide (num y = 0) := by
  by_cases h : num y = 0
  · rw [decide_eq_true h, beq_iff_eq]
    have h0 := num_none h
    match y, hy with
    | [a, b, c, d], _ =>
      rw [h0 a (by simp), h0 b (by simp), h0 c (by simp), h0 d (by simp)]
  · rw [decide_eq_false h, beq_eq_false_iff_ne]
    rintro rfl
    exact h (by decide)

/-- What Get and Right say of a page's bytes of which four are turned. -/
theorem turned_get {k n g : Nat} {s : ByteArray} {l : List UInt8} (hR : Right l) (hget : ∀ w, Tab w → Calls Tryd.prog 9 #[.string (bs l), .int .i64 (n : Int)] w fun e w' => e = .returned (.tuple #[.agg #[.int .i64 (k : Int), .int .i64 (g : Int), .string s], .int .i64 0]) ∧ New w w')
    {K : Nat} (hK : K < 249) {y : List UInt8} (hy : y.length = 4) : ∃ (o : Int) (c : Array Value), (∀ w, Tab w → Calls Tryd.prog 9 #[.string (bs (turnN l K y 4)), .int .i64 (n : Int)] w fun e w' => e = .returned (.tuple #[.agg c, .int .i64 o]) ∧ New w w') ∧
      (o == 0) = (y == [0, 0, 0, 0]) ∧ ((y == [0, 0, 0, 0]) = false → o = 6 ∧ c = noPg) ∧ (Tryd.prog.info? 23).map (·.size) = some c.size ∧ noPg.size = c.size ∧ c.all (·.oneCell') = true := by
  rw [four_zero hy]
  by_cases h : num y = 0
  · rw [decide_eq_true h]
    refine ⟨0, #[.int .i64 (k : Int), .int .i64 (g : Int), .string s], ?_, rfl, (fun h => by cases h), i23, rfl, pg_all _ _ _⟩
    rw [turnN_none (num_none h) 4 (by rw [hR.1]; omega) (by omega)]
    exact hget
  · rw [decide_eq_false h]
    refine ⟨6, noPg, fun w hT => get_wrong _ ?_ _ w hT, rfl, fun _ => ⟨rfl, rfl⟩, i23, rfl, pg_all _ _ _⟩
    rw [L_bs]
    exact fun h2 => h ((turned_right hR (by omega) hy).1 h2)
theorem turned_rightB {l : List UInt8} (hR : Right l) {K : Nat} (hK : K < 249) {y : List UInt8} (hy : y.length = 4) : rightB (turnN l K y 4) = (y == [0, 0, 0, 0]) := by
  rw [four_zero hy]
  by_cases h : num y = 0
  · rw [decide_eq_true h]
    exact (rightB_iff _).2 ((turned_right hR (by omega) hy).2 h)
  · rw [decide_eq_false h]
    exact rightB_false fun h2 => h ((turned_right hR (by omega) hy).1 h2)
theorem four_at {y : List UInt8} (hy : y.length = 4) (j : Nat) (hj : j < 4) : (cellsL y).toArray[j]? = some (.int .u8 ((y.getD j 0).toNat : Int)) := by
  rw [List.getElem?_toArray]
  refine cellsL_get ?_
  rw [List.getD_eq_getElem?_getD, List.getElem?_eq_getElem (by omega)]; rfl

theorem wpList_build0w {P : Program} {w : World} {ops : Array Oper} {rest : List Oper} {o : Oper} {a : Act} {Q : Exit → Act → World → Prop} (hw : Region.wanted o (yielded ops a.tmps) = true) (t : TypeId) (ho : o.op = .build t #[]) (cs : Array Value) (hb : P.built t [] = some cs)
    (h : wpList P ops Q rest (a.put o.dst (.agg cs)) w) : wpList P ops Q (o :: rest) a w := by
  refine BigFrame.wpList_want hw fun K hK => wp_build t _ ho (by simp [hb]) (hK _ _ ?_)
  simpa [hb] using h

end Go.Proofs.YtlbnikkpfhclgaaDoor
