/-
  The small functions of nibble: isOdd, joinedSize, allHalves, Good, Common: what each returns, for every text. A region that draws its order, whose operations only read and whose callees keep all that lay in memory, walked once, in the order of the text. What a call keeps; the two tables in memory; a word's operations as the program's own; turn and the document's turn. What round tells: one word mixed into the eight. A region that draws its order, whose first operations only read (their callees keep all that lay in memory) and whose last ones wait for all of them: walked once, in the order of the text. What the document's times, square and cube tell, as plain functions. What the document's cube tells, as a plain function.
-/
import Derived.Test.YtjikdbmdaeonlaaDoorRows
import Derived.Test.YtjikdbmdaeonlaaDoorGaa
import Derived.Test.YtjikdbmdaeonlaaDoorGac
import Derived.WalkKit
import Derived.WalkSpells
import Derived.WalkLawsBesides
import Derived.RowKit3
import Derived.Below
import Derived.BigQuiet
import Derived.Laws.BitsLemmas
namespace Go.Proofs.YtjikdbmdaeonlaaDoor
open Go.RowKit
set_option maxRecDepth 20000

def oddB (n : Nat) : Bool := decide (n % 2 = 1)
theorem ret_bool {a b : Bool} (h : a = b) : Ending.returned (.bool a) = .returned (.bool b) := by rw [h]
theorem ret_str {a b : ByteArray} (h : a = b) : Ending.returned (.string a) = .returned (.string b) := by rw [h]
theorem ret_int {a b : Int} (h : a = b) : Ending.returned (.int .i64 a) = .returned (.int .i64 b) := by rw [h]

/-- All that lay in memory is as it was. -/
def Kept (w w' : World) : Prop := New w w'
theorem Kept.refl (w : World) : Kept w w := New.refl w
theorem Kept.trans {a b c : World} (h : Kept a b) (k : Kept b c) : Kept a c := New.trans h k

theorem Kept.below {w w' : World} (h : Below w.heap.size w w') : Kept w w' := h
theorem Kept.drew (w : World) : Kept w w.drew := New.drew w
theorem Kept.drewR {w w' : World} (h : Kept w w') : Kept w w'.drew := h.trans (Kept.drew _)
theorem Kept.allocR {w w' : World} (h : Kept w w') (o : Obj) : Kept w (w'.alloc o) := New.alloc h o
theorem Kept.cell {w w' : World} (h : Kept w w') {b o : Nat} (hb : b < w.heap.size) : w'.cell? ⟨b, o, none⟩ = w.cell? ⟨b, o, none⟩ := New.cell h hb
theorem Kept.size {w w' : World} (h : Kept w w') : w.heap.size ≤ w'.heap.size := Below.size h
theorem odd_form (n : Nat) : ((n : Int) % 2 != 0) = oddB n := by
  unfold oddB
  rw [Bool.eq_iff_iff, bne_iff_ne, decide_eq_true_eq]; omega

theorem isOdd_any (n : Nat) (w : World) :
    Calls Tryd.prog 95 #[.int .i64 (n : Int)] w fun e w' => e = .returned (.bool (oddB n)) ∧ w' = w := by
  go_enter Tryd.func95, Tryd.ntmps95
  go_wp2
  go_ret
  exact ⟨ret_bool (odd_form n), rfl⟩

theorem joinedSize_any (n : Nat) (hn : n ≤ 5000) (w : World) :
    Calls Tryd.prog 94 #[.int .i64 (n : Int)] w fun e w' => e = .returned (.int .i64 (((n + 1) / 2 : Nat) : Int)) ∧ w' = w := by
  go_enter Tryd.func94, Tryd.ntmps94
  go_wp2
  go_ret
  exact ⟨ret_int (by omega), rfl⟩

theorem andNot15 : ∀ n : Nat, n < 256 → (bits .andNot .u8 (n : Int) 15 != 0) = !decide (n < 16) := by decide +kernel
theorem and15 : ∀ n : Nat, n < 256 → bits .and .u8 (n : Int) 15 = ((n % 16 : Nat) : Int) := by decide +kernel
theorem or_halves : ∀ a : Nat, a < 16 → ∀ b : Nat, b < 16 → bits .or .u8 ((a * 16 : Nat) : Int) (b : Int) = ((a * 16 + b : Nat) : Int) := by decide +kernel

set_option maxHeartbeats 400000 in
theorem allHalves_any (s : ByteArray) (hs : s.size ≤ 5000) (w : World) :
    Calls Tryd.prog 84 #[.string s] w fun e w' => e = .returned (.bool (halvesB (L s))) ∧ w' = w := by
  go_enter Tryd.func84, Tryd.ntmps84
  go_wp2_with fail
  go_loop [6] (fun i => ∃ k : Nat, k ≤ s.size ∧ i = .int .i64 k ∧ ∀ (j : Nat) c, j < k → (L s)[j]? = some c → c.toNat < 16) (fun i => s.size - (intOf i).toNat)
  case atStart => exact ⟨0, by omega, rfl, fun j c h => absurd h (by omega)⟩
  case round =>
    obtain ⟨k, hk, rfl, hall⟩ := hrel
    have HA : Hid (∀ (j : Nat) c, j < k → (L s)[j]? = some c → c.toNat < 16) := hall
    clear hall
    by_cases hlt : k < s.size
    · have hc : Hid ((L s)[k]? = some s[k]) := L_get s k hlt
      have ht := andNot15 (s[k]).toNat (s[k]).toNat_lt
      by_cases h16 : (s[k]).toNat < 16
      · rw [decide_eq_true h16] at ht
        go_wp2_with fail
        go_round
        case rel => exact ⟨k + 1, by omega, by go_num, fun j c hj hjc => by
          by_cases e : j = k
          · subst e; rw [hc.out] at hjc; cases hjc; exact h16
          · exact HA.out j c (by omega) hjc⟩
        case measure => simp [intOf]; omega
      · rw [decide_eq_false h16] at ht
        go_wp2_with fail
        go_ret
        exact ⟨ret_bool (halvesB_bad hc.out h16).symm, rfl⟩
    · obtain rfl : k = s.size := by omega
      go_wp2_with fail
      go_ret
      refine ⟨ret_bool (halvesB_good fun j c h => HA.out j c ?_ h).symm, rfl⟩
      rw [← L_size s]
      exact (List.getElem?_eq_some_iff.1 h).1

def goodB (l : List UInt8) : Bool := decide (l.length ≤ 16) && halvesB l
set_option maxHeartbeats 400000 in
theorem good_any (s : ByteArray) (hs : s.size ≤ 5000) (w : World) :
    Calls Tryd.prog 65 #[.string s] w fun e w' => e = .returned (.bool (goodB (L s))) ∧ w' = w := by
  by_cases h : s.size ≤ 16
  · have hd : decide ((s.size : Int) ≤ 16) = true := decide_eq_true (by omega)
    have HG : Hid (goodB (L s) = halvesB (L s)) := by show _ = _; unfold goodB; rw [decide_eq_true (by rw [L_size]; exact h)]; rfl
    go_enter Tryd.func65, Tryd.ntmps65
    go_wp2_with fail
    refine (allHalves_any s hs _).mono ?_
    rintro e w1 ⟨rfl, rfl⟩
    go_wp2_with fail
    go_ret
    exact ⟨ret_bool HG.out.symm, rfl⟩
  · have hd : decide ((s.size : Int) ≤ 16) = false := decide_eq_false (by omega)
    have HG : Hid (goodB (L s) = false) := by show _ = _; unfold goodB; rw [decide_eq_false (by rw [L_size]; exact h)]; rfl
    go_enter Tryd.func65, Tryd.ntmps65
    go_wp2_with fail
    go_ret
    exact ⟨ret_bool HG.out.symm, rfl⟩

theorem com_step {l m : List UInt8} {k : Nat} {a : UInt8} (h : l.take k = m.take k) (ha : l[k]? = some a) (hb : m[k]? = some a) : l.take (k + 1) = m.take (k + 1) := by
  rw [List.take_add_one, List.take_add_one, h, ha, hb]

set_option maxHeartbeats 400000 in
theorem common_any (s t : ByteArray) (hs : s.size ≤ 5000) (ht : t.size ≤ 5000) (w : World) :
    Calls Tryd.prog 101 #[.string s, .string t] w fun e w' => e = .returned (.int .i64 (comN (L s) (L t) : Nat)) ∧ Kept w w' := by
  go_enter Tryd.func101, Tryd.ntmps101
  go_wp2_with fail
  all_goals
    go_loopw [13] (fun i wr => ∃ k : Nat, k ≤ s.size ∧ k ≤ t.size ∧ i = .int .i64 k ∧ (L s).take k = (L t).take k ∧ Kept w wr) (fun i _ => s.size - (intOf i).toNat)
    case atStart => exact ⟨0, by omega, by omega, rfl, rfl, Kept.refl _⟩
    case round =>
      obtain ⟨k, hk1, hk2, rfl, hpre, hkept⟩ := hrel
      have HP : Hid ((L s).take k = (L t).take k) := hpre
      clear hpre
      by_cases hlt : k < s.size ∧ k < t.size
      · obtain ⟨h1, h2⟩ := hlt
        have hc : Hid ((L s)[k]? = some s[k]) := L_get s k h1
        have hd : Hid ((L t)[k]? = some t[k]) := L_get t k h2
        by_cases he : s[k] = t[k]
        · have hb : ((s[k].toNat : Int) != (t[k].toNat : Int)) = false := by rw [he]; simp
          have HE : Hid (s[k] = t[k]) := he
          clear he
          go_wp2_with fail
          go_region
          go_wp2_with fail
          exact ⟨⟨k + 1, by omega, by omega, by go_num, com_step HP.out (hc.out.trans (by rw [HE.out])) hd.out, hkept.trans (Kept.drew _)⟩, by simp [intOf]; omega⟩
        · have hb : ((s[k].toNat : Int) != (t[k].toNat : Int)) = true := by
            rw [bne_iff_ne]; intro h; exact he (UInt8.toNat_inj.1 (by omega))
          have HE : Hid (comN (L s) (L t) = k) := comN_stop _ _ _ HP.out (by rw [L_size]; omega) (by rw [L_size]; omega) (.inr (.inr ⟨_, _, hc.out, hd.out, he⟩))
          clear he
          go_wp2_with fail
          go_region
          go_wp2_with fail
          go_ret
          exact ⟨ret_int (by rw [HE.out]), hkept.trans (Kept.drew _)⟩
      · have HE : Hid (comN (L s) (L t) = k) := comN_stop _ _ _ HP.out (by rw [L_size]; omega) (by rw [L_size]; omega) (by rw [L_size, L_size]; omega)
        go_wp2_with fail
        go_ret
        exact ⟨ret_int (by rw [HE.out]; omega), hkept⟩

end Go.Proofs.YtjikdbmdaeonlaaDoor
namespace Go.Proofs.YtjikdbmdaeonlaaDoor
open Go.RowKit
set_option maxRecDepth 20000

/-- A world in which all that lay in w is as it was. -/
structure KeptW (w : World) where
  v : World
  h : Kept w v

theorem region_kept {P : Program} {id : Nat} {Q : Exit → Act → World → Prop} {a : Act} {w : World} {l : List Oper} (W : World) (hW : Kept W w) (hm : P.follows .mixedOrders = true) (hB : Region.lexB .any l.toArray = true)
    (h : wpQuiet P l.toArray (fun w' => ∃ p : KeptW W, w' = p.v) (fun a' => ∀ w', (∃ p : KeptW W, w' = p.v) → Q .normal a' w') l a) : (Code.region id l.toArray true).wp P Q a w :=
  wp_region_quiet (C := fun w' => ∃ p : KeptW W, w' = p.v) hm hB ⟨⟨w.drew, hW.drewR⟩, rfl⟩ (by simpa using h)

theorem Calls.keptw {P : Program} {f : FuncId} {args : Array Value} {W : World} {p : KeptW W} {v : Value}
    (h : Calls P f args p.v fun e w' => e = .returned v ∧ Kept p.v w') : Calls P f args p.v fun e w'' => e = .returned v ∧ ∃ q : KeptW W, w'' = q.v :=
  h.mono fun _ _ ⟨he, hk⟩ => ⟨he, ⟨_, p.h.trans hk⟩, rfl⟩
theorem Calls.keptw_same {P : Program} {f : FuncId} {args : Array Value} {W : World} {p : KeptW W} {v : Value}
    (h : Calls P f args p.v fun e w' => e = .returned v ∧ w' = p.v) : Calls P f args p.v fun e w'' => e = .returned v ∧ ∃ q : KeptW W, w'' = q.v :=
  h.mono fun _ _ ⟨he, hk⟩ => ⟨he, p, hk⟩

end Go.Proofs.YtjikdbmdaeonlaaDoor
namespace Go.Proofs.YtjikdbmdaeonlaaDoor.Dg
open Go.RowKit
set_option maxRecDepth 20000

theorem ret_bool {a b : Bool} (h : a = b) : Ending.returned (.bool a) = .returned (.bool b) := by rw [h]
theorem ret_str {a b : ByteArray} (h : a = b) : Ending.returned (.string a) = .returned (.string b) := by rw [h]
theorem ret_u32 {a b : Int} (h : a = b) : Ending.returned (.int .u32 a) = .returned (.int .u32 b) := by rw [h]

/-- All that lay in memory is as it was. -/
def Kept (w w' : World) : Prop := New w w'
theorem Kept.refl (w : World) : Kept w w := New.refl w
theorem Kept.trans {a b c : World} (h : Kept a b) (k : Kept b c) : Kept a c := New.trans h k

theorem Kept.below {w w' : World} (h : Below w.heap.size w w') : Kept w w' := h
theorem Kept.drew (w : World) : Kept w w.drew := New.drew w
theorem Kept.drewR {w w' : World} (h : Kept w w') : Kept w w'.drew := h.trans (Kept.drew _)
theorem Kept.allocR {w w' : World} (h : Kept w w') (o : Obj) : Kept w (w'.alloc o) := New.alloc h o
theorem Kept.cell {w w' : World} (h : Kept w w') {b o : Nat} (hb : b < w.heap.size) : w'.cell? ⟨b, o, none⟩ = w.cell? ⟨b, o, none⟩ := New.cell h hb
theorem Kept.size {w w' : World} (h : Kept w w') : w.heap.size ≤ w'.heap.size := Below.size h
theorem Kept.setCell {W w' : World} (h : Kept W w') {a : Addr} (ha : W.heap.size ≤ a.block) (v : Value) : Kept W (w'.setCell a v) := Below.setCell h ha v
theorem Kept.setRow {W w' : World} (h : Kept W w') {g : Nat} (ha : W.heap.size ≤ g) (cs : Array Value) : Kept W (w'.setRow g cs) := by
  have h1 : Below W.heap.size W w' := h
  exact ⟨h1.os, h1.tape, h1.output, by simpa [World.setRow] using h1.size, fun i hi => (setRow_other w' g i cs (by omega)).trans (h1.block i hi)⟩
/-- A row of cells, whole, that may be written. -/
def Row (w : World) (g : Nat) (cs : Array Value) (t : TypeId) : Prop := w.heap[g]? = some (.cells cs t (0, 0))
theorem Row.lt {w : World} {g : Nat} {cs : Array Value} {t : TypeId} (h : Row w g cs t) : g < w.heap.size := (Array.getElem?_eq_some_iff.1 h).1
theorem Row.cell {w : World} {g : Nat} {cs : Array Value} {t : TypeId} (h : Row w g cs t) (j : Nat) : w.cell? ⟨g, j, none⟩ = cs[j]? := cell_of_row w g j cs t (0, 0) h
theorem Row.frozen {w : World} {g : Nat} {cs : Array Value} {t : TypeId} (h : Row w g cs t) (j : Nat) : w.frozen? ⟨g, j, none⟩ = false := frozen_of_row w g j cs t h
theorem Row.alloc {w : World} {g : Nat} {cs : Array Value} {t : TypeId} (h : Row w g cs t) (o : Obj) : Row (w.alloc o) g cs t := (heap_alloc_old w o h.lt).trans h
theorem Row.drew {w : World} {g : Nat} {cs : Array Value} {t : TypeId} (h : Row w g cs t) : Row w.drew g cs t := h
theorem Row.new (w : World) (cs : Array Value) (t : TypeId) : Row (w.alloc (.cells cs t)) w.heap.size cs t := heap_alloc_new w _
theorem Row.set {w : World} {g : Nat} {cs : Array Value} {t : TypeId} (h : Row w g cs t) (cs' : Array Value) : Row (w.setRow g cs') g cs' t := setRow_heap w g cs cs' t _ h
theorem Row.setOther {w : World} {g : Nat} {cs : Array Value} {t : TypeId} (h : Row w g cs t) {k : Nat} (hk : g ≠ k) (cs' : Array Value) : Row (w.setRow k cs') g cs t := (setRow_other w k g cs' hk).trans h
theorem Row.setCell {w : World} {g : Nat} {cs : Array Value} {t : TypeId} (h : Row w g cs t) (i : Nat) (v : Value) : Row (w.setCell ⟨g, i, none⟩ v) g (cs.setIfInBounds i v) t := heap_setCell_same w g i cs t v h
theorem Row.setCellOther {w : World} {g : Nat} {cs : Array Value} {t : TypeId} (h : Row w g cs t) {a : Addr} (hk : g ≠ a.block) (v : Value) : Row (w.setCell a v) g cs t := (heap_setCell_other w a g v hk).trans h
theorem Row.kept {w w' : World} {g : Nat} {cs : Array Value} {t : TypeId} (h : Row w g cs t) (k : Kept w w') : Row w' g cs t := (Below.block k g h.lt).trans h
/-- Words as cells; bytes as cells. -/
def cw (l : List Nat) : Array Value := (l.map fun (x : Nat) => Value.int .u32 (x : Int)).toArray
def cb (l : List Nat) : Array Value := (l.map fun (x : Nat) => Value.int .u8 (x : Int)).toArray
theorem cw_size (l : List Nat) : (cw l).size = l.length := by simp [cw]
theorem cb_size (l : List Nat) : (cb l).size = l.length := by simp [cb]
theorem cw_get (l : List Nat) (j : Nat) (h : j < l.length) : (cw l)[j]? = some (.int .u32 ((l.getD j 0 : Nat) : Int)) := by
  simp [cw, h]
theorem cb_get (l : List Nat) (j : Nat) (h : j < l.length) : (cb l)[j]? = some (.int .u8 ((l.getD j 0 : Nat) : Int)) := by
  simp [cb, h]
theorem cw_set (l : List Nat) (j x : Nat) : (cw l).setIfInBounds j (.int .u32 (x : Int)) = cw (l.set j x) := by
  unfold cw
  rw [List.setIfInBounds_toArray, List.map_set]
theorem cb_set (l : List Nat) (j x : Nat) : (cb l).setIfInBounds j (.int .u8 (x : Int)) = cb (l.set j x) := by
  unfold cb
  rw [List.setIfInBounds_toArray, List.map_set]
theorem cw_one (l : List Nat) : (cw l).all (·.oneCell') = true := by
  unfold cw
  rw [List.all_toArray, List.all_map, List.all_eq_true]
  intro x _; rfl
theorem cb_one (l : List Nat) : (cb l).all (·.oneCell') = true := by
  unfold cb
  rw [List.all_toArray, List.all_map, List.all_eq_true]
  intro x _; rfl

/-- A block has just these cells. -/
def Has (w : World) (g : Nat) (cs : Array Value) : Prop := ∃ t fr, w.heap[g]? = some (.cells cs t fr)
theorem Has.lt {w : World} {g : Nat} {cs : Array Value} (h : Has w g cs) : g < w.heap.size := let ⟨_, _, e⟩ := h; (Array.getElem?_eq_some_iff.1 e).1
theorem Has.cell {w : World} {g : Nat} {cs : Array Value} (h : Has w g cs) (j : Nat) : w.cell? ⟨g, j, none⟩ = cs[j]? := let ⟨t, fr, e⟩ := h; cell_of_row w g j cs t fr e
theorem Has.kept {w w' : World} {g : Nat} {cs : Array Value} (h : Has w g cs) (k : Kept w w') : Has w' g cs := let ⟨t, fr, e⟩ := h; ⟨t, fr, (Below.block k g h.lt).trans e⟩
/-- The tables lie in the first two blocks. -/
def Tab (w : World) : Prop := Has w 0 (cw firstN.list) ∧ Has w 1 (cw roundsN)
theorem Tab.kept {w w' : World} (h : Tab w) (k : Kept w w') : Tab w' := ⟨h.1.kept k, h.2.kept k⟩

/-- A word's operations, as the program's. -/
theorem toNat_word (a : Nat) : (BitVec.ofInt 32 (a : Int)).toNat = a % 4294967296 := by
  rw [BitVec.ofInt_natCast, BitVec.toNat_ofNat]
theorem wrap_word (n : Nat) (h : n < 4294967296) : IntKind.u32.wrap (n : Int) = (n : Int) := by rw [IntKind.wrap_u32]; omega
theorem xo_u32 (a b : Nat) : bits .xor .u32 (a : Int) (b : Int) = ((xo a b : Nat) : Int) := by
  show IntKind.u32.wrap ((BitVec.ofInt 32 (a : Int) ^^^ BitVec.ofInt 32 (b : Int)).toNat : Int) = _
  rw [BitVec.toNat_xor, toNat_word, toNat_word]
  exact wrap_word _ (xo_lt a b)
theorem an_u32 (a b : Nat) : bits .and .u32 (a : Int) (b : Int) = ((an a b : Nat) : Int) := by
  show IntKind.u32.wrap ((BitVec.ofInt 32 (a : Int) &&& BitVec.ofInt 32 (b : Int)).toNat : Int) = _
  rw [BitVec.toNat_and, toNat_word, toNat_word]
  exact wrap_word _ (an_lt a b)
theorem ors_u32 (a b : Nat) : bits .or .u32 (a : Int) (b : Int) = ((ors a b : Nat) : Int) := by
  show IntKind.u32.wrap ((BitVec.ofInt 32 (a : Int) ||| BitVec.ofInt 32 (b : Int)).toNat : Int) = _
  rw [BitVec.toNat_or, toNat_word, toNat_word]
  exact wrap_word _ (ors_lt a b)
theorem no_u32 (a : Nat) : bits .xor .u32 IntKind.u32.max (a : Int) = ((no a : Nat) : Int) := by
  have h := xo_u32 4294967295 a
  exact h
theorem ad_u32 (a b : Nat) : IntKind.u32.wrap ((a : Int) + (b : Int)) = ((ad a b : Nat) : Int) := by
  rw [IntKind.wrap_u32]; unfold ad; omega

/-- By how much a word is turned. -/
def By (n : Nat) : Prop := n = 2 ∨ n = 6 ∨ n = 7 ∨ n = 11 ∨ n = 13 ∨ n = 17 ∨ n = 18 ∨ n = 19 ∨ n = 22 ∨ n = 25
set_option maxHeartbeats 1600000 in
theorem turnL_any (x n : Nat) (hn : By n) (w : World) :
    Calls Tryd.prog 106 #[.int .u32 (x : Int), .int .i64 (-(n : Int))] w fun e w' => e = .returned (.int .u32 ((rot x n : Nat) : Int)) ∧ w' = w := by
  have ho := ors_u32
  have b2 : bits .and .u64 (IntKind.u64.wrap (-2)) 31 = 30 := by decide +kernel
  have b6 : bits .and .u64 (IntKind.u64.wrap (-6)) 31 = 26 := by decide +kernel
  have b7 : bits .and .u64 (IntKind.u64.wrap (-7)) 31 = 25 := by decide +kernel
  have b11 : bits .and .u64 (IntKind.u64.wrap (-11)) 31 = 21 := by decide +kernel
  have b13 : bits .and .u64 (IntKind.u64.wrap (-13)) 31 = 19 := by decide +kernel
  have b17 : bits .and .u64 (IntKind.u64.wrap (-17)) 31 = 15 := by decide +kernel
  have b18 : bits .and .u64 (IntKind.u64.wrap (-18)) 31 = 14 := by decide +kernel
  have b19 : bits .and .u64 (IntKind.u64.wrap (-19)) 31 = 13 := by decide +kernel
  have b22 : bits .and .u64 (IntKind.u64.wrap (-22)) 31 = 10 := by decide +kernel
  have b25 : bits .and .u64 (IntKind.u64.wrap (-25)) 31 = 7 := by decide +kernel
  have r2 : (x : Int) / 4 = ((sr x 2 : Nat) : Int) := by unfold sr; omega
  have l2 : (x : Int) * 1073741824 % 4294967296 = ((sl x 30 : Nat) : Int) := by unfold sl; omega
  have r6 : (x : Int) / 64 = ((sr x 6 : Nat) : Int) := by unfold sr; omega
  have l6 : (x : Int) * 67108864 % 4294967296 = ((sl x 26 : Nat) : Int) := by unfold sl; omega
  have r7 : (x : Int) / 128 = ((sr x 7 : Nat) : Int) := by unfold sr; omega
  have l7 : (x : Int) * 33554432 % 4294967296 = ((sl x 25 : Nat) : Int) := by unfold sl; omega
  have r11 : (x : Int) / 2048 = ((sr x 11 : Nat) : Int) := by unfold sr; omega
  have l11 : (x : Int) * 2097152 % 4294967296 = ((sl x 21 : Nat) : Int) := by unfold sl; omega
  have r13 : (x : Int) / 8192 = ((sr x 13 : Nat) : Int) := by unfold sr; omega
  have l13 : (x : Int) * 524288 % 4294967296 = ((sl x 19 : Nat) : Int) := by unfold sl; omega
  have r17 : (x : Int) / 131072 = ((sr x 17 : Nat) : Int) := by unfold sr; omega
  have l17 : (x : Int) * 32768 % 4294967296 = ((sl x 15 : Nat) : Int) := by unfold sl; omega
  have r18 : (x : Int) / 262144 = ((sr x 18 : Nat) : Int) := by unfold sr; omega
  have l18 : (x : Int) * 16384 % 4294967296 = ((sl x 14 : Nat) : Int) := by unfold sl; omega
  have r19 : (x : Int) / 524288 = ((sr x 19 : Nat) : Int) := by unfold sr; omega
  have l19 : (x : Int) * 8192 % 4294967296 = ((sl x 13 : Nat) : Int) := by unfold sl; omega
  have r22 : (x : Int) / 4194304 = ((sr x 22 : Nat) : Int) := by unfold sr; omega
  have l22 : (x : Int) * 1024 % 4294967296 = ((sl x 10 : Nat) : Int) := by unfold sl; omega
  have r25 : (x : Int) / 33554432 = ((sr x 25 : Nat) : Int) := by unfold sr; omega
  have l25 : (x : Int) * 128 % 4294967296 = ((sl x 7 : Nat) : Int) := by unfold sl; omega
  rcases hn with rfl | rfl | rfl | rfl | rfl | rfl | rfl | rfl | rfl | rfl
  all_goals
    go_enter Tryd.func106, Tryd.ntmps106
    go_wp2_with fail
    go_ret
    exact ⟨ret_u32 (by rfl), rfl⟩

theorem turn_any (x n : Nat) (k : Int) (hk : k = (n : Int)) (hn : By n) (w : World) :
    Calls Tryd.prog 100 #[.int .u32 (x : Int), .int .i64 k] w fun e w' => e = .returned (.int .u32 ((rot x n : Nat) : Int)) ∧ w' = w := by
  subst hk
  have hr := turnL_any x n hn
  have h0 : IntKind.i64.wrap (-(n : Int)) = -(n : Int) := by
    rcases hn with rfl | rfl | rfl | rfl | rfl | rfl | rfl | rfl | rfl | rfl <;> rfl
  clear hn
  go_enter Tryd.func100, Tryd.ntmps100
  go_wp2_with fail
  refine (hr _).mono ?_
  rintro e w' ⟨rfl, rfl⟩
  go_wp2_with fail
  go_ret
  exact ⟨rfl, rfl⟩

set_option maxHeartbeats 1600000 in
theorem refTurn_any (x n : Nat) (k : Int) (hk : k = (n : Int)) (hn : By n) (w : World) :
    Calls Tryd.prog 77 #[.int .u32 (x : Int), .int .u64 k] w fun e w' => e = .returned (.int .u32 ((rot x n : Nat) : Int)) ∧ w' = w := by
  subst hk
  have ho : ∀ a b : Nat, bits .or .u32 (a : Int) (b : Int) = ((ors b a : Nat) : Int) := fun a b => by rw [ors_u32, ors_comm]
  have r2 : (x : Int) / 4 = ((sr x 2 : Nat) : Int) := by unfold sr; omega
  have l2 : (x : Int) * 1073741824 % 4294967296 = ((sl x 30 : Nat) : Int) := by unfold sl; omega
  have r6 : (x : Int) / 64 = ((sr x 6 : Nat) : Int) := by unfold sr; omega
  have l6 : (x : Int) * 67108864 % 4294967296 = ((sl x 26 : Nat) : Int) := by unfold sl; omega
  have r7 : (x : Int) / 128 = ((sr x 7 : Nat) : Int) := by unfold sr; omega
  have l7 : (x : Int) * 33554432 % 4294967296 = ((sl x 25 : Nat) : Int) := by unfold sl; omega
  have r11 : (x : Int) / 2048 = ((sr x 11 : Nat) : Int) := by unfold sr; omega
  have l11 : (x : Int) * 2097152 % 4294967296 = ((sl x 21 : Nat) : Int) := by unfold sl; omega
  have r13 : (x : Int) / 8192 = ((sr x 13 : Nat) : Int) := by unfold sr; omega
  have l13 : (x : Int) * 524288 % 4294967296 = ((sl x 19 : Nat) : Int) := by unfold sl; omega
  have r17 : (x : Int) / 131072 = ((sr x 17 : Nat) : Int) := by unfold sr; omega
  have l17 : (x : Int) * 32768 % 4294967296 = ((sl x 15 : Nat) : Int) := by unfold sl; omega
  have r18 : (x : Int) / 262144 = ((sr x 18 : Nat) : Int) := by unfold sr; omega
  have l18 : (x : Int) * 16384 % 4294967296 = ((sl x 14 : Nat) : Int) := by unfold sl; omega
  have r19 : (x : Int) / 524288 = ((sr x 19 : Nat) : Int) := by unfold sr; omega
  have l19 : (x : Int) * 8192 % 4294967296 = ((sl x 13 : Nat) : Int) := by unfold sl; omega
  have r22 : (x : Int) / 4194304 = ((sr x 22 : Nat) : Int) := by unfold sr; omega
  have l22 : (x : Int) * 1024 % 4294967296 = ((sl x 10 : Nat) : Int) := by unfold sl; omega
  have r25 : (x : Int) / 33554432 = ((sr x 25 : Nat) : Int) := by unfold sr; omega
  have l25 : (x : Int) * 128 % 4294967296 = ((sl x 7 : Nat) : Int) := by unfold sl; omega
  rcases hn with rfl | rfl | rfl | rfl | rfl | rfl | rfl | rfl | rfl | rfl
  all_goals
    go_enter Tryd.func77, Tryd.ntmps77
    go_wp2_with fail
    go_ret
    exact ⟨ret_u32 (by rfl), rfl⟩

end Go.Proofs.YtjikdbmdaeonlaaDoor.Dg
namespace Go.Proofs.YtjikdbmdaeonlaaDoor.Dg
open Go.RowKit
set_option maxRecDepth 20000

theorem i23 : (Tryd.prog.info? 67).map (·.size) = some 8 := by kernel_rfl
theorem World.heap_size_alloc (w : World) (o : Obj) : (w.alloc o).heap.size = w.heap.size + 1 := by
  show (w.heap.push o).size = _
  simp
theorem Row.drewN {w : World} {g : Nat} {cs : Array Value} {t : TypeId} (h : Row w g cs t) (n : Nat) : Row (w.drewN n) g cs t := h
theorem Kept.drewNR {w w' : World} (h : Kept w w') (n : Nat) : Kept w (w'.drewN n) := by
  have h1 : Below w.heap.size w w' := h
  exact ⟨h1.os, h1.tape, h1.output, h1.size, h1.block⟩
theorem Row.new8 (w : World) (t : TypeId) : Row (w.alloc (.cells #[.int .u32 0, .int .u32 0, .int .u32 0, .int .u32 0, .int .u32 0, .int .u32 0, .int .u32 0, .int .u32 0] t)) w.heap.size #[.int .u32 0, .int .u32 0, .int .u32 0, .int .u32 0, .int .u32 0, .int .u32 0, .int .u32 0, .int .u32 0] t := Row.new w _ t
theorem b6 : By 6 := by unfold By; omega
theorem b11 : By 11 := by unfold By; omega
theorem b25 : By 25 := by unfold By; omega
theorem b2 : By 2 := by unfold By; omega
theorem b13 : By 13 := by unfold By; omega
theorem b22 : By 22 := by unfold By; omega
theorem b7 : By 7 := by unfold By; omega
theorem b18 : By 18 := by unfold By; omega
theorem b17 : By 17 := by unfold By; omega
theorem b19 : By 19 := by unfold By; omega

set_option maxHeartbeats 1600000 in
theorem round_any (v : W8) (word : Nat) (w : World) :
    Calls Tryd.prog 87 #[.agg (cw v.list), .int .u32 (word : Int)] w fun e w' => e = .returned (.agg (cw (roundR v word).list)) ∧ Kept w w' := by
  have hx := xo_u32
  have ha := an_u32
  have hn := no_u32
  have hd := ad_u32
  obtain ⟨a, b, c, d, e, f, g, p⟩ := v
  show Calls Tryd.prog 87 #[.agg #[.int .u32 (a : Int), .int .u32 (b : Int), .int .u32 (c : Int), .int .u32 (d : Int), .int .u32 (e : Int), .int .u32 (f : Int), .int .u32 (g : Int), .int .u32 (p : Int)], .int .u32 (word : Int)] w _
  go_enter Tryd.func87, Tryd.ntmps87
  go_wp2_with fail
  go_quiet (fail)
  go_wp2_with fail
  refine (turn_any _ 6 _ rfl b6 _).mono ?_
  rintro _ _ ⟨rfl, rfl⟩
  go_wp2_with fail
  refine (turn_any _ 11 _ rfl b11 _).mono ?_
  rintro _ _ ⟨rfl, rfl⟩
  go_wp2_with fail
  refine (turn_any _ 25 _ rfl b25 _).mono ?_
  rintro _ _ ⟨rfl, rfl⟩
  go_wp2_with fail
  refine (turn_any _ 2 _ rfl b2 _).mono ?_
  rintro _ _ ⟨rfl, rfl⟩
  go_wp2_with fail
  refine (turn_any _ 13 _ rfl b13 _).mono ?_
  rintro _ _ ⟨rfl, rfl⟩
  go_wp2_with fail
  refine (turn_any _ 22 _ rfl b22 _).mono ?_
  rintro _ _ ⟨rfl, rfl⟩
  go_wp2_with fail
  refine bodyPost_ret (results_cell_row rfl _ _ (w.heap.size + 1) 67 (cw (roundR ⟨a, b, c, d, e, f, g, p⟩ word).list) (0, 0) _ rfl ?r Tryd.underlying67 rfl ?i) rfl ⟨rfl, ?k⟩
  case i => exact i23
  case r =>
    have h0 := Row.drewN (Row.new8 (w.alloc (.cells #[.int .u32 (a : Int), .int .u32 (b : Int), .int .u32 (c : Int), .int .u32 (d : Int), .int .u32 (e : Int), .int .u32 (f : Int), .int .u32 (g : Int), .int .u32 (p : Int)] 67)) 67) nq
    rw [World.heap_size_alloc] at h0
    exact ((((((((h0.setCell 0 _).setCell 1 _).setCell 2 _).setCell 3 _).setCell 4 _).setCell 5 _).setCell 6 _).setCell 7 _)
  case k => exact (((((((((((Kept.refl w).allocR _).allocR _).drewNR _).setCell (by simp) _).setCell (by simp) _).setCell (by simp) _).setCell (by simp) _).setCell (by simp) _).setCell (by simp) _).setCell (by simp) _).setCell (by simp) _

end Go.Proofs.YtjikdbmdaeonlaaDoor.Dg
namespace Go.Proofs.YtjikdbmdaeonlaaDoor.Dg
open Go.RowKit
set_option maxRecDepth 20000

section
variable {P : Program} {ops : Array Oper} {md : Region.Mode} {C : World → Prop}

/-- The first so many operations, in whatever order; behind them Q. -/
def wpAnyN (P : Program) (md : Region.Mode) (ops : Array Oper) (C : World → Prop) (Q : Array Bool → Act → Prop) : Nat → Array Bool → Act → Prop
  | 0, listed, a => Q listed a
  | fuel + 1, listed, a => Region.ready md ops listed ≠ [] ∧ ∀ i ∈ Region.ready md ops listed, qOp P ops C i (wpAnyN P md ops C Q fuel (listed.setIfInBounds i true)) a

theorem wpAny_of_N {Q : Array Bool → Act → Prop} {Q' : Exit → Act → World → Prop} {m : Nat} (hQ : ∀ listed a w, C w → Q listed a → wpAny P md ops Q' m listed a w) :
    ∀ (fuel : Nat) (listed : Array Bool) (a : Act) (w : World), C w → wpAnyN P md ops C Q fuel listed a → wpAny P md ops Q' (fuel + m) listed a w
  | 0, listed, a, w, hw, h => by rw [Nat.zero_add]; exact hQ listed a w hw h
  | fuel + 1, listed, a, w, hw, h => by
    rw [show fuel + 1 + m = fuel + m + 1 by omega]
    exact ⟨fun h0 => absurd h0 h.1, fun i hi => wpOp_of_qOp hw (fun a' w' hw' => wpAny_of_N hQ fuel _ a' w' hw') (h.2 i hi)⟩

/-- What has come up has come up behind all that it waits for. -/
def Closed (md : Region.Mode) (ops : Array Oper) (listed : Array Bool) : Prop := ∀ (k : Nat) (o : Oper), ops[k]? = some o → listed.getD k true = true → ∀ e ∈ o.after, Region.binds md e = true → listed.getD e.on false = true
theorem Closed.set {listed : Array Bool} (h : Closed md ops listed) {j : Nat} (hj : j ∈ Region.ready md ops listed) : Closed md ops (listed.setIfInBounds j true) := fun k o hk hl e he hb => by
  by_cases hjk : j = k
  · subst hjk
    obtain ⟨_, o', ho', hall⟩ := mem_ready.1 hj
    rw [hk] at ho'
    cases ho'
    exact getD_set_true (hall e he hb)
  · rw [getD_set_ne true hjk] at hl
    exact getD_set_true (h k o hk hl e he hb)
theorem Closed.start : Closed md ops (Array.replicate ops.size false) := fun k o hk hl => by
  have hlt := (Array.getElem?_eq_some_iff.1 hk).1
  simp [hlt] at hl
/-- Each of the first n is waited for, by another of them or by all that may come up at 'full'. -/
def waitsB (md : Region.Mode) (ops : Array Oper) (full : Array Bool) (n : Nat) : Bool :=
  (List.range n).all fun i =>
    ((List.range n).any fun k => (k != i) && full.getD k false && ((ops[k]?).map (·.after.any fun e => Region.binds md e && e.on == i)).getD false) ||
    (Region.ready md ops full).all fun j => ((ops[j]?).map (·.after.any fun e => Region.binds md e && e.on == i)).getD false
theorem after_spec {i j : Nat} (h : ((ops[j]?).map (·.after.any fun e => Region.binds md e && e.on == i)).getD false = true) : ∃ o, ops[j]? = some o ∧ ∃ e ∈ o.after, Region.binds md e = true ∧ e.on = i := by
  cases ho : ops[j]? with
  | none => rw [ho] at h; simp at h
  | some o =>
    rw [ho] at h
    simp only [Option.map_some, Option.getD_some, Array.any_eq_true'] at h
    obtain ⟨e, he, h2⟩ := h
    simp only [Bool.and_eq_true, beq_iff_eq] at h2
    exact ⟨o, rfl, e, he, h2.1, h2.2⟩
theorem waits_spec {full : Array Bool} {n : Nat} (h : waitsB md ops full n = true) {i : Nat} (hi : i < n) :
    (∃ k, k ≠ i ∧ full.getD k false = true ∧ ∃ o, ops[k]? = some o ∧ ∃ e ∈ o.after, Region.binds md e = true ∧ e.on = i) ∨ (∀ j ∈ Region.ready md ops full, ∃ o, ops[j]? = some o ∧ ∃ e ∈ o.after, Region.binds md e = true ∧ e.on = i) := by
  have h1 := List.all_eq_true.1 h i (List.mem_range.2 hi)
  rw [Bool.or_eq_true] at h1
  rcases h1 with h1 | h1
  · obtain ⟨k, _, h2⟩ := List.any_eq_true.1 h1
    simp only [Bool.and_eq_true, bne_iff_ne] at h2
    exact .inl ⟨k, h2.1.1, h2.1.2, after_spec h2.2⟩
  · exact .inr fun j hj => after_spec (List.all_eq_true.1 h1 j hj)
theorem not_listed {i : Nat} {listed : Array Bool} (h : i ∈ Region.ready md ops listed) : listed.getD i false = false := by
  have h0 := (mem_ready.1 h).1
  rcases Nat.lt_or_ge i listed.size with h' | h'
  · simp [h'] at h0 ⊢; exact h0
  · simp [Array.getElem?_eq_none h']

theorem wpAnyN_first {Q : Act → Prop} {full : Array Bool} {n : Nat} (hwait : waitsB md ops full n = true) {i : Nat} {oi : Oper} {v : Value} (hin : i < n) (hi : ops[i]? = some oi) (hsel : ∀ (j : Nat) (o : Oper) cs b, ops[j]? = some o → o.op ≠ .select cs b) :
    ∀ (fuel : Nat) (listed : Array Bool) (a : Act), Closed md ops listed →
      (∀ j oj, ops[j]? = some oj → j ≠ i → listed.getD j true = false → (∀ e ∈ oj.after, Region.binds md e = true → e.on ≠ i) → oi.apart ops oj = true) →
      i ∈ Region.ready md ops listed → YieldsIn P ops C oi v a →
      wpAnyN P md ops C (fun li a => li = full ∧ Q a) fuel (listed.setIfInBounds i true) (a.put oi.dst v) → wpAnyN P md ops C (fun li a => li = full ∧ Q a) (fuel + 1) listed a := by
  intro fuel
  induction fuel with
  | zero =>
    intro listed a hcl _ hr hy H
    refine ⟨fun h => (by rw [h] at hr; cases hr), fun j hj => ?_⟩
    by_cases hji : j = i
    · subst hji; exact hy.qOp hi H
    · have h1 := ready_mono hj hji
      have h2 : listed.setIfInBounds i true = full := H.1
      rw [h2] at h1
      rcases waits_spec hwait hin with ⟨k, hki, hkf, o, ho, e, he, hb, heq⟩ | h4
      · rw [← h2] at hkf
        have hk2 : listed.getD k true = true := by
          rw [getD_set_ne false (Ne.symm hki)] at hkf
          rcases Nat.lt_or_ge k listed.size with h' | h'
          · simp [h'] at hkf ⊢; exact hkf
          · simp [Array.getElem?_eq_none h']
        have h3 := hcl k o ho hk2 e he hb
        rw [heq, not_listed hr] at h3
        cases h3
      · obtain ⟨o, ho, e, he, hb, heq⟩ := h4 j h1
        obtain ⟨_, o', ho', hall⟩ := mem_ready.1 hj
        rw [ho] at ho'
        cases ho'
        have h3 := hall e he hb
        rw [heq, not_listed hr] at h3
        cases h3
  | succ fuel ih =>
    intro listed a hcl hfree hr hy H
    refine ⟨fun h => (by rw [h] at hr; cases hr), fun j hj => ?_⟩
    by_cases hji : j = i
    · subst hji; exact hy.qOp hi H
    · have h1 := H.2 j (ready_mono hj hji)
      obtain ⟨hjun, oj, hoj, hall⟩ := mem_ready.1 hj
      have hnot : ∀ e ∈ oj.after, Region.binds md e = true → e.on ≠ i := fun e he hb heq => by
        have h1 := hall e he hb
        rw [heq, not_listed hr] at h1
        cases h1
      have h2 := qOp_put hoj (hfree j oj hoj hji hjun hnot) (fun cs b => hsel i oi cs b hi) (fun cs b => hsel j oj cs b hoj) hy h1
      have hfree' : ∀ k ok, ops[k]? = some ok → k ≠ i → (listed.setIfInBounds j true).getD k true = false →
          (∀ e ∈ ok.after, Region.binds md e = true → e.on ≠ i) → oi.apart ops ok = true := fun k ok hk hki hun hno => by
        refine hfree k ok hk hki ?_ hno
        by_cases hjk : j = k
        · subst hjk; exact hjun
        · rw [getD_set_ne true hjk] at hun; exact hun
      refine qOp_mono (fun a' h3 => ih (listed.setIfInBounds j true) a' (hcl.set hj) hfree' (ready_mono hr (Ne.symm hji)) h3.1 ?_) h2
      rw [Array.setIfInBounds_comm _ _ hji]
      exact h3.2

def lexPart (md : Region.Mode) (ops : Array Oper) : Nat → Nat → Array Bool → Bool
  | 0, _, _ => true
  | fuel + 1, k, listed => (Region.ready md ops listed).contains k && Region.free md ops listed k && lexPart md ops fuel (k + 1) (listed.setIfInBounds k true)
def fullAt : Nat → Nat → Array Bool → Array Bool
  | 0, _, listed => listed
  | fuel + 1, k, listed => fullAt fuel (k + 1) (listed.setIfInBounds k true)
def tailB (md : Region.Mode) (ops : Array Oper) : Nat → Nat → Array Bool → Bool
  | 0, _, listed => (Region.ready md ops listed).isEmpty
  | fuel + 1, k, listed => (Region.ready md ops listed == [k]) && tailB md ops fuel (k + 1) (listed.setIfInBounds k true)

theorem wpAnyN_lex {Q : Act → Prop} {full : Array Bool} {n : Nat} (hs : Region.noSelect ops = true) (hwait : waitsB md ops full n = true) : ∀ (l : List Oper) (k : Nat) (listed : Array Bool) (a : Act), Closed md ops listed → (∀ j, j < l.length → l[j]? = ops[k + j]?) →
    k + l.length = n → lexPart md ops l.length k listed = true → fullAt l.length k listed = full → wpQuiet P ops C Q l a → wpAnyN P md ops C (fun li a => li = full ∧ Q a) l.length listed a
  | [], _, _, _, _, _, _, _, hf, h => ⟨hf, h⟩
  | o :: l, k, listed, a, hcl, hl, hn, hB, hfu, h => by
    have h0 : ops[k]? = some o := by simpa using (hl 0 (by simp)).symm
    simp only [List.length_cons] at hn
    simp only [List.length_cons, lexPart, Bool.and_eq_true] at hB
    obtain ⟨⟨hr, hf⟩, hB'⟩ := hB
    have hst : qOp P ops C k (wpQuiet P ops C Q l) a := by unfold qOp; simp only [h0]; exact h
    obtain ⟨v, hy, hK⟩ := yieldsIn_of_qOp h0 hst
    exact wpAnyN_first hwait (by omega) h0 (Region.noSelect_spec hs) l.length listed a hcl (Region.free_spec h0 hf) (by simpa using hr) hy
      (wpAnyN_lex hs hwait l (k + 1) _ _ (hcl.set (by simpa using hr)) (fun j hj => by have := hl (j + 1) (by simpa using hj); simpa [Nat.add_assoc, Nat.add_comm 1 j] using this) (by omega) hB' hfu hK)

theorem wpAny_tail {Q : Exit → Act → World → Prop} : ∀ (l : List Oper) (k : Nat) (listed : Array Bool) (a : Act) (w : World), (∀ j, l[j]? = ops[k + j]?) →
    tailB md ops l.length k listed = true → wpList P ops Q l a w → wpAny P md ops Q l.length listed a w
  | [], _, _, _, _, _, hB, h => ⟨by simpa [tailB] using hB, h⟩
  | o :: l, k, listed, a, w, hl, hB, h => by
    have h0 : ops[k]? = some o := by simpa using (hl 0).symm
    simp only [List.length_cons, tailB, Bool.and_eq_true, beq_iff_eq] at hB
    obtain ⟨hr, hB'⟩ := hB
    refine ⟨fun h1 => (by rw [hr] at h1; cases h1), fun i hi => ?_⟩
    rw [hr] at hi
    obtain rfl : i = k := by simpa using hi
    have hop : wpOp P ops Q i (wpList P ops Q l) a w := by unfold wpOp; simp only [h0]; exact h
    exact wpOp_mono (fun a' w' h' => wpAny_tail l (i + 1) _ a' w' (fun j => by have := hl (j + 1); simpa [Nat.add_assoc, Nat.add_comm 1 j] using this) hB' h') hop

def partB (md : Region.Mode) (ops : Array Oper) (n : Nat) : Bool :=
  Region.noSelect ops && lexPart md ops n 0 (Array.replicate ops.size false) && waitsB md ops (fullAt n 0 (Array.replicate ops.size false)) n && tailB md ops (ops.size - n) n (fullAt n 0 (Array.replicate ops.size false))

theorem wp_region_part {id : Nat} {Q : Exit → Act → World → Prop} {a : Act} {w : World} {l1 l2 : List Oper} (hm : P.follows .mixedOrders = true) (hB : partB .any (l1 ++ l2).toArray l1.length = true) (hC : C { w with drawn := w.drawn + 1 })
    (h : wpQuiet P (l1 ++ l2).toArray C (fun a' => ∀ w', C w' → wpList P (l1 ++ l2).toArray Q l2 a' w') l1 a) : (Code.region id (l1 ++ l2).toArray true).wp P Q a w := by
  simp only [partB, Bool.and_eq_true] at hB
  obtain ⟨⟨⟨hs, hl⟩, hw⟩, ht⟩ := hB
  refine wp_region_any hm ?_
  have hsz : (l1 ++ l2).toArray.size = l1.length + l2.length := by simp
  rw [hsz, show l1.length + l2.length - l1.length = l2.length by omega] at ht
  have h1 := wpAnyN_lex (C := C) (md := .any) hs hw l1 0 (Array.replicate (l1 ++ l2).toArray.size false) a Closed.start (fun j hj => by rw [Nat.zero_add, List.getElem?_toArray, List.getElem?_append_left hj]) (by omega) hl rfl h
  have h2 := wpAny_of_N (m := l2.length) (Q' := Q) (fun listed a w hw hq => by
    obtain ⟨rfl, hq⟩ := hq
    refine wpAny_tail l2 l1.length _ a w (fun j => ?_) (by rw [hsz]; exact ht) (hq w hw)
    rw [List.getElem?_toArray, List.getElem?_append_right (by omega), show l1.length + j - l1.length = j by omega]) _ _ _ _ hC h1
  rw [hsz] at h2 ⊢
  exact h2

end

/-- A world in which all that lay in w is as it was. -/
structure KeptW (w : World) where
  v : World
  h : Kept w v

theorem region_kept {P : Program} {id : Nat} {Q : Exit → Act → World → Prop} {a : Act} {w : World} {l : List Oper} (W : World) (hW : Kept W w) (hm : P.follows .mixedOrders = true) (hB : Region.lexB .any l.toArray = true)
    (h : wpQuiet P l.toArray (fun w' => ∃ p : KeptW W, w' = p.v) (fun a' => ∀ w', (∃ p : KeptW W, w' = p.v) → Q .normal a' w') l a) : (Code.region id l.toArray true).wp P Q a w :=
  wp_region_quiet (C := fun w' => ∃ p : KeptW W, w' = p.v) hm hB ⟨⟨w.drew, hW.drewR⟩, rfl⟩ (by simpa using h)

/-- The first n only read; the others wait for them. -/
theorem region_part {P : Program} {id : Nat} {Q : Exit → Act → World → Prop} {a : Act} {w : World} {l : List Oper} (n : Nat) (W : World) (hW : Kept W w) (hm : P.follows .mixedOrders = true) (hB : partB .any l.toArray n = true) (hn : (l.take n).length = n)
    (h : wpQuiet P l.toArray (fun w' => ∃ p : KeptW W, w' = p.v) (fun a' => ∀ w', (∃ p : KeptW W, w' = p.v) → wpList P l.toArray Q (l.drop n) a' w') (l.take n) a) : (Code.region id l.toArray true).wp P Q a w := by
  have e : l = l.take n ++ l.drop n := (List.take_append_drop n l).symm
  have h3 := wp_region_part (P := P) (id := id) (Q := Q) (a := a) (w := w) (C := fun w' => ∃ p : KeptW W, w' = p.v) (l1 := l.take n) (l2 := l.drop n) hm (by rw [← e, hn]; exact hB) ⟨⟨w.drew, hW.drewR⟩, rfl⟩ (by rw [← e]; exact h)
  rw [← e] at h3
  exact h3

theorem Calls.keptw {P : Program} {f : FuncId} {args : Array Value} {W : World} {p : KeptW W} {v : Value}
    (h : Calls P f args p.v fun e w' => e = .returned v ∧ Kept p.v w') : Calls P f args p.v fun e w'' => e = .returned v ∧ ∃ q : KeptW W, w'' = q.v :=
  h.mono fun _ _ ⟨he, hk⟩ => ⟨he, ⟨_, p.h.trans hk⟩, rfl⟩
theorem Calls.keptw_same {P : Program} {f : FuncId} {args : Array Value} {W : World} {p : KeptW W} {v : Value}
    (h : Calls P f args p.v fun e w' => e = .returned v ∧ w' = p.v) : Calls P f args p.v fun e w'' => e = .returned v ∧ ∃ q : KeptW W, w'' = q.v :=
  h.mono fun _ _ ⟨he, hk⟩ => ⟨he, p, hk⟩

end Go.Proofs.YtjikdbmdaeonlaaDoor.Dg
namespace Go.Proofs.YtjikdbmdaeonlaaDoor.Dg
open Go.RowKit
set_option maxRecDepth 20000

theorem toNat_long (a : Nat) : (BitVec.ofInt 64 (a : Int)).toNat = a % 18446744073709551616 := by
  rw [BitVec.ofInt_natCast, BitVec.toNat_ofNat]
theorem or6_lt (a b : Nat) : or6 a b < 18446744073709551616 := Nat.or_lt_two_pow (n := 64) (Nat.mod_lt _ (by decide)) (Nat.mod_lt _ (by decide))
theorem wrap_long (n : Nat) (h : n < 18446744073709551616) : IntKind.u64.wrap (n : Int) = (n : Int) := by rw [IntKind.wrap_u64]; omega
theorem or_u64 (a b : Nat) : bits .or .u64 (a : Int) (b : Int) = ((or6 a b : Nat) : Int) := by
  show IntKind.u64.wrap ((BitVec.ofInt 64 (a : Int) ||| BitVec.ofInt 64 (b : Int)).toNat : Int) = _
  rw [BitVec.toNat_or, toNat_long, toNat_long]
  exact wrap_long _ (or6_lt a b)
theorem lo_u64 (a : Nat) : bits .and .u64 (a : Int) 4294967295 = ((lo6 a : Nat) : Int) := by
  show IntKind.u64.wrap ((BitVec.ofInt 64 (a : Int) &&& BitVec.ofInt 64 (4294967295 : Int)).toNat : Int) = _
  have h2 : (BitVec.ofInt 64 (4294967295 : Int)).toNat = 2 ^ 32 - 1 := by decide
  have h3 : (a % 18446744073709551616) &&& (2 ^ 32 - 1) = lo6 a := by
    rw [Nat.and_two_pow_sub_one_eq_mod]
    unfold lo6
    omega
  rw [BitVec.toNat_and, toNat_long, h2, h3]
  exact wrap_long _ (by unfold lo6; omega)
theorem ad_u64 (a b : Nat) : IntKind.u64.wrap ((a : Int) + (b : Int)) = ((ad6 a b : Nat) : Int) := by
  rw [IntKind.wrap_u64]; unfold ad6; omega
theorem mu_u64 (a b : Nat) : IntKind.u64.wrap ((a : Int) * (b : Int)) = ((mu6 a b : Nat) : Int) := by
  rw [IntKind.wrap_u64, ← Int.natCast_mul]; unfold mu6; omega
theorem hi_u64 (a : Nat) : (a : Int) / 4294967296 = ((hi6 a : Nat) : Int) := by unfold hi6; omega
theorem up_u64 (a : Nat) : IntKind.u64.wrap ((a : Int) * 4294967296) = ((up6 a : Nat) : Int) := by rw [IntKind.wrap_u64]; unfold up6; omega

set_option maxHeartbeats 1600000 in
theorem times_any (a b : Nat) (w : World) :
    Calls Tryd.prog 76 #[.int .u64 (a : Int), .int .u64 (b : Int)] w fun e w' => e = .returned (.tuple #[.int .u64 ((highT a b : Nat) : Int), .int .u64 ((lowT a b : Nat) : Int)]) ∧ w' = w := by
  have h1 := or_u64
  have h2 := lo_u64
  have h3 := ad_u64
  have h4 := mu_u64
  have h5 := hi_u64
  have h6 := up_u64
  go_enter Tryd.func76, Tryd.ntmps76
  go_wp2_with fail
  go_ret2
  exact ⟨rfl, rfl⟩

theorem wrap_pow (d : Nat) (h : d ≤ 63) : IntKind.u64.wrap (2 ^ d) = ((2 ^ d : Nat) : Int) := by
  have h2 : 2 ^ d ≤ 2 ^ 63 := Nat.pow_le_pow_right (by omega) h
  have h3 : ((2 ^ d : Nat) : Int) = (2 : Int) ^ d := by simp
  rw [← h3]
  exact wrap_long _ (by omega)
theorem sq_ways (v r bit : Nat) (x h l : Nat) (hx : or6 r (2 ^ bit) = x) (hh : highT x x = h) (hl : lowT x x = l) :
    (h < v ∧ sqBit v r bit = x) ∨ (¬ h < v ∧ h = v ∧ l = 0 ∧ sqBit v r bit = x) ∨ (¬ h < v ∧ h = v ∧ l ≠ 0 ∧ sqBit v r bit = r) ∨ (¬ h < v ∧ h ≠ v ∧ sqBit v r bit = r) := by
  unfold sqBit
  rw [hx, hh, hl]
  by_cases h1 : h < v
  · exact .inl ⟨h1, if_pos (.inl h1)⟩
  · by_cases h2 : h = v
    · by_cases h3 : l = 0
      · exact .inr (.inl ⟨h1, h2, h3, if_pos (.inr ⟨h2, h3⟩)⟩)
      · exact .inr (.inr (.inl ⟨h1, h2, h3, if_neg (fun e => e.elim h1 (fun e => h3 e.2))⟩))
    · exact .inr (.inr (.inr ⟨h1, h2, if_neg (fun e => e.elim h1 (fun e => h2 e.1))⟩))

set_option maxHeartbeats 1600000 in
theorem square_any (v : Nat) (w : World) :
    Calls Tryd.prog 55 #[.int .u64 (v : Int)] w fun e w' => e = .returned (.int .u32 ((squareN v : Nat) : Int)) ∧ w' = w := by
  have h1 := or_u64
  go_enter Tryd.func55, Tryd.ntmps55
  go_wp2_with fail
  go_loop [3, 4] (fun r i => ∃ k : Nat, k ≤ 37 ∧ i = .int .i64 (36 - (k : Int)) ∧ r = .int .u64 ((sqN v k : Nat) : Int)) (fun _ i => (1 + intOf i).toNat)
  case atStart => exact ⟨0, by omega, rfl, rfl⟩
  case round =>
    obtain ⟨k, hk, rfl, rfl⟩ := hrel
    by_cases hlt : k < 37
    · obtain ⟨d, hd⟩ : ∃ d, 36 - k = d := ⟨_, rfl⟩
      have hdI : (36 : Int) - (k : Int) = (d : Int) := by omega
      have HS : Hid (sqN v (k + 1) = sqBit v (sqN v k) d) := by show sqN v (k + 1) = _; rw [sqN, hd]
      obtain ⟨r, hr⟩ : ∃ r, sqN v k = r := ⟨_, rfl⟩
      rw [hr] at HS ⊢
      obtain ⟨x, hx⟩ : ∃ x, or6 r (2 ^ d) = x := ⟨_, rfl⟩
      obtain ⟨h, hh⟩ : ∃ h, highT x x = h := ⟨_, rfl⟩
      obtain ⟨l, hl⟩ : ∃ l, lowT x x = l := ⟨_, rfl⟩
      have hways := sq_ways v r d x h l hx hh hl
      have hcall := times_any x x w
      rw [hh, hl] at hcall
      have hor : bits .or .u64 (r : Int) (IntKind.u64.wrap (2 ^ d)) = (x : Int) := by
        rw [← hx, ← h1, wrap_pow d (by omega)]
      have hd36 : d ≤ 36 := by omega
      clear hd hr hx hh hl h1
      rcases hways with ⟨t1, t2⟩ | ⟨t1, t2, t3, t4⟩ | ⟨t1, t2, t3, t4⟩ | ⟨t1, t2, t3⟩
      · have HT : Hid (sqBit v r d = x) := t2
        clear t2
        go_wp2_with fail
        refine hcall.mono ?_
        rintro _ _ ⟨rfl, rfl⟩
        go_wp2_with fail
        refine ⟨⟨k + 1, by omega, by go_num, ?_⟩, by simp [intOf]; omega⟩
        rw [HS.out, HT.out]
      · have HT : Hid (sqBit v r d = x) := t4
        clear t4
        go_wp2_with fail
        refine hcall.mono ?_
        rintro _ _ ⟨rfl, rfl⟩
        go_wp2_with fail
        refine ⟨⟨k + 1, by omega, by go_num, ?_⟩, by simp [intOf]; omega⟩
        rw [HS.out, HT.out]
      · have HT : Hid (sqBit v r d = r) := t4
        clear t4
        go_wp2_with fail
        refine hcall.mono ?_
        rintro _ _ ⟨rfl, rfl⟩
        go_wp2_with fail
        refine ⟨⟨k + 1, by omega, by go_num, ?_⟩, by simp [intOf]; omega⟩
        rw [HS.out, HT.out]
      · have HT : Hid (sqBit v r d = r) := t3
        clear t3
        go_wp2_with fail
        refine hcall.mono ?_
        rintro _ _ ⟨rfl, rfl⟩
        go_wp2_with fail
        refine ⟨⟨k + 1, by omega, by go_num, ?_⟩, by simp [intOf]; omega⟩
        rw [HS.out, HT.out]
    · obtain rfl : k = 37 := by omega
      obtain ⟨r, hr⟩ : ∃ r, sqN v 37 = r := ⟨_, rfl⟩
      have HQ : Hid (squareN v = r % 4294967296) := by show _ = _; unfold squareN; rw [hr]
      rw [hr]
      clear hr
      go_wp2_with fail
      go_ret
      exact ⟨ret_u32 (by rw [HQ.out]; simp), rfl⟩

end Go.Proofs.YtjikdbmdaeonlaaDoor.Dg
namespace Go.Proofs.YtjikdbmdaeonlaaDoor.Dg
open Go.RowKit
set_option maxRecDepth 20000

theorem cu_ways (v r bit : Nat) (x h u l : Nat) (hx : or6 r (2 ^ bit) = x) (hh : topC x = h) (hu : up6 v = u) (hl : lowT (lowT x x) x = l) :
    (h < u ∧ cuBit v r bit = x) ∨ (¬ h < u ∧ h = u ∧ l = 0 ∧ cuBit v r bit = x) ∨ (¬ h < u ∧ h = u ∧ l ≠ 0 ∧ cuBit v r bit = r) ∨ (¬ h < u ∧ h ≠ u ∧ cuBit v r bit = r) := by
  unfold cuBit
  rw [hx, hh, hu, hl]
  by_cases h1 : h < u
  · exact .inl ⟨h1, if_pos (.inl h1)⟩
  · by_cases h2 : h = u
    · by_cases h3 : l = 0
      · exact .inr (.inl ⟨h1, h2, h3, if_pos (.inr ⟨h2, h3⟩)⟩)
      · exact .inr (.inr (.inl ⟨h1, h2, h3, if_neg (fun e => e.elim h1 (fun e => h3 e.2))⟩))
    · exact .inr (.inr (.inr ⟨h1, h2, if_neg (fun e => e.elim h1 (fun e => h2 e.1))⟩))

set_option maxHeartbeats 1600000 in
theorem cube_any (v : Nat) (w : World) :
    Calls Tryd.prog 56 #[.int .u64 (v : Int)] w fun e w' => e = .returned (.int .u32 ((cubeN v : Nat) : Int)) ∧ w' = w := by
  obtain ⟨u, hu⟩ : ∃ u, up6 v = u := ⟨_, rfl⟩
  have huI : IntKind.u64.wrap ((v : Int) * 4294967296) = (u : Int) := by rw [up_u64, hu]
  have HU : Hid (up6 v = u) := hu
  clear hu
  go_enter Tryd.func56, Tryd.ntmps56
  go_wp2_with fail
  go_loop [3, 4] (fun r i => ∃ k : Nat, k ≤ 36 ∧ i = .int .i64 (35 - (k : Int)) ∧ r = .int .u64 ((cuN v k : Nat) : Int)) (fun _ i => (1 + intOf i).toNat)
  case atStart => exact ⟨0, by omega, rfl, rfl⟩
  case round =>
    obtain ⟨k, hk, rfl, rfl⟩ := hrel
    by_cases hlt : k < 36
    · obtain ⟨d, hd⟩ : ∃ d, 35 - k = d := ⟨_, rfl⟩
      have hdI : (35 : Int) - (k : Int) = (d : Int) := by omega
      have HS : Hid (cuN v (k + 1) = cuBit v (cuN v k) d) := by show cuN v (k + 1) = _; rw [cuN, hd]
      obtain ⟨r, hr⟩ : ∃ r, cuN v k = r := ⟨_, rfl⟩
      rw [hr] at HS ⊢
      obtain ⟨x, hx⟩ : ∃ x, or6 r (2 ^ d) = x := ⟨_, rfl⟩
      obtain ⟨h0, e0⟩ : ∃ h, highT x x = h := ⟨_, rfl⟩
      obtain ⟨l0, e1⟩ : ∃ l, lowT x x = l := ⟨_, rfl⟩
      obtain ⟨h1, e2⟩ : ∃ h, highT l0 x = h := ⟨_, rfl⟩
      obtain ⟨l, e3⟩ : ∃ l, lowT l0 x = l := ⟨_, rfl⟩
      obtain ⟨h2, e4⟩ : ∃ l, highT h0 x = l := ⟨_, rfl⟩
      obtain ⟨l2, e5⟩ : ∃ l, lowT h0 x = l := ⟨_, rfl⟩
      obtain ⟨h, e6⟩ : ∃ h, ad6 h1 l2 = h := ⟨_, rfl⟩
      have hways := cu_ways v r d x h u l hx (by unfold topC; rw [e1, e2, e0, e5, e6]) HU.out (by rw [e1, e3])
      have hc1 := times_any x x w
      rw [e0, e1] at hc1
      have hc2 := times_any l0 x w
      rw [e2, e3] at hc2
      have hc3 := times_any h0 x w
      rw [e4, e5] at hc3
      have hor : bits .or .u64 (r : Int) (IntKind.u64.wrap (2 ^ d)) = (x : Int) := by
        rw [← hx, ← or_u64, wrap_pow d (by omega)]
      have had : IntKind.u64.wrap ((h1 : Int) + (l2 : Int)) = (h : Int) := by rw [ad_u64, e6]
      have hd36 : d ≤ 35 := by omega
      clear hd hr hx e0 e1 e2 e3 e4 e5 e6
      rcases hways with ⟨t1, t2⟩ | ⟨t1, t2, t3, t4⟩ | ⟨t1, t2, t3, t4⟩ | ⟨t1, t2, t3⟩
      · have HT : Hid (cuBit v r d = x) := t2
        clear t2
        go_wp2_with fail
        refine hc1.mono ?_
        rintro _ _ ⟨rfl, rfl⟩
        go_wp2_with fail
        refine hc2.mono ?_
        rintro _ _ ⟨rfl, rfl⟩
        go_wp2_with fail
        refine hc3.mono ?_
        rintro _ _ ⟨rfl, rfl⟩
        go_wp2_with fail
        refine ⟨⟨k + 1, by omega, by go_num, ?_⟩, by simp [intOf]; omega⟩
        rw [HS.out, HT.out]
      · have HT : Hid (cuBit v r d = x) := t4
        clear t4
        go_wp2_with fail
        refine hc1.mono ?_
        rintro _ _ ⟨rfl, rfl⟩
        go_wp2_with fail
        refine hc2.mono ?_
        rintro _ _ ⟨rfl, rfl⟩
        go_wp2_with fail
        refine hc3.mono ?_
        rintro _ _ ⟨rfl, rfl⟩
        go_wp2_with fail
        refine ⟨⟨k + 1, by omega, by go_num, ?_⟩, by simp [intOf]; omega⟩
        rw [HS.out, HT.out]
      · have HT : Hid (cuBit v r d = r) := t4
        clear t4
        go_wp2_with fail
        refine hc1.mono ?_
        rintro _ _ ⟨rfl, rfl⟩
        go_wp2_with fail
        refine hc2.mono ?_
        rintro _ _ ⟨rfl, rfl⟩
        go_wp2_with fail
        refine hc3.mono ?_
        rintro _ _ ⟨rfl, rfl⟩
        go_wp2_with fail
        refine ⟨⟨k + 1, by omega, by go_num, ?_⟩, by simp [intOf]; omega⟩
        rw [HS.out, HT.out]
      · have HT : Hid (cuBit v r d = r) := t3
        clear t3
        go_wp2_with fail
        refine hc1.mono ?_
        rintro _ _ ⟨rfl, rfl⟩
        go_wp2_with fail
        refine hc2.mono ?_
        rintro _ _ ⟨rfl, rfl⟩
        go_wp2_with fail
        refine hc3.mono ?_
        rintro _ _ ⟨rfl, rfl⟩
        go_wp2_with fail
        refine ⟨⟨k + 1, by omega, by go_num, ?_⟩, by simp [intOf]; omega⟩
        rw [HS.out, HT.out]
    · obtain rfl : k = 36 := by omega
      obtain ⟨r, hr⟩ : ∃ r, cuN v 36 = r := ⟨_, rfl⟩
      have HQ : Hid (cubeN v = r % 4294967296) := by show _ = _; unfold cubeN; rw [hr]
      rw [hr]
      clear hr
      go_wp2_with fail
      go_ret
      exact ⟨ret_u32 (by rw [HQ.out]; simp), rfl⟩

end Go.Proofs.YtjikdbmdaeonlaaDoor.Dg
