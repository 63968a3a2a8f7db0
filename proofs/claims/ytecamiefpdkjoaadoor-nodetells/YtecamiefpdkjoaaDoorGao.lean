/-
  What item returns: what a text's pieces tell, in memory of its own. Two texts' pieces held against each other. What Decode returns: the Item whose text a text is; else none. The statements' own helpers: whether two Items are alike, whether one is too large, a hash of one byte.
-/
import Derived.Test.YtecamiefpdkjoaaDoorGan
import Derived.Deep.CutRange
import Derived.Test.YtecamiefpdkjoaaDoorGad
import Derived.Deep.CutBlock
import Derived.Laws.StructEq
namespace Go.Proofs.YtecamiefpdkjoaaDoor
open Go.RowKit
set_option maxRecDepth 20000
set_option linter.unusedVariables false

theorem info24 : (Tryd.prog.info? 24).map (fun i => (i.zero, i.size, i.bytes)) = some (some (.agg #[.int .i64 0, .string ⟨#[]⟩, .bool false, .string ⟨#[]⟩, .int .i64 0, .slice none 0 0]), 6, 80) := by kernel_rfl
theorem info9 : (Tryd.prog.info? 9).map (fun i => (i.zero, i.size, i.bytes)) = some (some (.string ⟨#[]⟩), 1, 16) := by kernel_rfl
def itZ : Array Value := #[.int .i64 0, .string ⟨#[]⟩, .bool false, .string ⟨#[]⟩, .int .i64 0, .slice none 0 0]
theorem built24_two (k : Int) (s : ByteArray) : Tryd.prog.built 24 [(0, .int .i64 k), (3, .string s)] = some #[.int .i64 k, .string ⟨#[]⟩, .bool false, .string s, .int .i64 0, .slice none 0 0] := by kernel_rfl

/-- The cells of an Item that is being made. -/
def itR (k : Int) (p : List UInt8) (has : Bool) (v : List UInt8) (m : Int) (h : Value) : Array Value := #[.int .i64 k, .string (bs p), .bool has, .string (bs v), .int .i64 m, h]
theorem owns_of {w w' : World} {B : Nat} {t : TypeId} {k n : Nat} {v : Value} {xs : List Value} (h : w.ownsRow B t k v n xs) (e : ∀ b, B ≤ b → b < w.heap.size → w'.heap[b]? = w.heap[b]?) : w'.ownsRow B t k v n xs := by
  rcases h with ⟨h1, h2 | ⟨g, cap, cur, hv, hb, h3, h4⟩⟩
  · exact ⟨h1, .inl h2⟩
  · exact ⟨h1, .inr ⟨g, cap, cur, hv, hb, (e g hb (Array.getElem?_eq_some_iff.1 h3).1).trans h3, h4⟩⟩
theorem owns_tx {w : World} {B : Nat} {v : Value} {hs : List (List UInt8)} {n : Nat} (hn : hs.length = n) (h : w.ownsRow B 9 1 v n (hs.map fun h => Value.string (bs h))) : ∃ a c, v = .slice a hs.length c ∧ Tx w a hs ∧ ∀ x, a = some x → B ≤ x.block := by
  subst hn
  rcases h.2 with ⟨rfl, h0⟩ | ⟨g, cap, cur, rfl, hB, _⟩
  · exact ⟨none, 0, by rw [h0], fun h => by omega, fun x hx => by cases hx⟩
  · refine ⟨some ⟨g, 0, none⟩, cap, rfl, fun _ => ⟨_, rfl, fun i y hy => ?_⟩, fun x hx => by cases hx; exact hB⟩
    exact h.cells (g := g) rfl i _ (by rw [List.getElem?_map, hy]; rfl)
theorem itR_one (k : Int) (p : List UInt8) (has : Bool) (v : List UInt8) (m : Int) (a : Option Addr) (n c : Nat) : (itR k p has v m (.slice a n c)).all (·.oneCell') = true := by simp [itR, Value.oneCell']
/-- Six cells told anew. -/
def six (w : World) (g : Nat) (a0 a1 a2 a3 a4 a5 : Value) : World := (((((w.setCell ⟨g, 0, none⟩ a0).setCell ⟨g, 1, none⟩ a1).setCell ⟨g, 2, none⟩ a2).setCell ⟨g, 3, none⟩ a3).setCell ⟨g, 4, none⟩ a4).setCell ⟨g, 5, none⟩ a5
theorem six_row {w : World} {g : Nat} (R : Row w g itZ 24) (a0 a1 a2 a3 a4 a5 : Value) : Row (six w g a0 a1 a2 a3 a4 a5) g #[a0, a1, a2, a3, a4, a5] 24 := by
  have h := (((((R.set 0 a0).set 1 a1).set 2 a2).set 3 a3).set 4 a4).set 5 a5
  unfold itZ at h
  simp only [List.setIfInBounds_toArray, List.set_cons_zero, List.set_cons_succ] at h
  exact h
theorem six_other {w : World} {g b : Nat} {cs : Array Value} {t : TypeId} (R : Row w b cs t) (h : b ≠ g) (a0 a1 a2 a3 a4 a5 : Value) : Row (six w g a0 a1 a2 a3 a4 a5) b cs t :=
  (((((R.setOther (a := ⟨g, 0, none⟩) h a0).setOther (a := ⟨g, 1, none⟩) h a1).setOther (a := ⟨g, 2, none⟩) h a2).setOther (a := ⟨g, 3, none⟩) h a3).setOther (a := ⟨g, 4, none⟩) h a4).setOther (a := ⟨g, 5, none⟩) h a5
theorem six_new {w w1 : World} {g : Nat} (N : New w w1) (h : w.heap.size ≤ g) (a0 a1 a2 a3 a4 a5 : Value) : New w (six w1 g a0 a1 a2 a3 a4 a5) :=
  (((((N.setCell (a := ⟨g, 0, none⟩) h a0).setCell (a := ⟨g, 1, none⟩) h a1).setCell (a := ⟨g, 2, none⟩) h a2).setCell (a := ⟨g, 3, none⟩) h a3).setCell (a := ⟨g, 4, none⟩) h a4).setCell (a := ⟨g, 5, none⟩) h a5
theorem set_ip (k : Int) (p : List UInt8) (has : Bool) (v : List UInt8) (m : Int) (h : Value) (x : List UInt8) : (itR k p has v m h).setIfInBounds 1 (.string (bs x)) = itR k x has v m h := rfl
theorem set_ihas (k : Int) (p : List UInt8) (has : Bool) (v : List UInt8) (m : Int) (h : Value) (x : Bool) : (itR k p has v m h).setIfInBounds 2 (.bool x) = itR k p x v m h := rfl
theorem set_im (k : Int) (p : List UInt8) (has : Bool) (v : List UInt8) (m : Int) (h : Value) (x : Int) : (itR k p has v m h).setIfInBounds 4 (.int .i64 x) = itR k p has v x h := rfl
theorem set_ih (k : Int) (p : List UInt8) (has : Bool) (v : List UInt8) (m : Int) (h x : Value) : (itR k p has v m h).setIfInBounds 5 x = itR k p has v m x := rfl
/-- The worlds in which two cells have these values. -/
structure TwoW (a : Addr) (u : Value) (b : Addr) (v : Value) where
  w : World
  h1 : w.cell? a = some u
  h2 : w.cell? b = some v
def HasTwo (a : Addr) (u : Value) (b : Addr) (v : Value) (w : World) : Prop := ∃ q : TwoW a u b v, w = q.w
/-- A new Item. -/
def MadeI (w : World) (I : It) (e : Ending) (w' : World) : Prop := New w w' ∧ ∃ a c, e = .returned (itV I a c) ∧ Tx w' a I.hs ∧ ∀ x, a = some x → w.heap.size ≤ x.block

set_option maxHeartbeats 4000000 in
theorem item_any (P : Pt) (h16 : P.hs.length = 16) (hk : P.kind.length ≤ 1) (hm : P.mask.length ≤ 2) (hp : P.path.length ≤ 4000) (hv : P.value.length ≤ 4000) (hh : ∀ h ∈ P.hs, h.length ≤ 4000) (w : World) :
    Calls Tryd.prog 24 #[.agg (ptC P)] w fun e w' => MadeI w (itP P) e w' := by
  have HN := number_any P.kind (by omega)
  have HCl := clone_any P.value hv
  obtain ⟨pu, hpu⟩ : ∃ x, (if unpackB P.path then unN P.path else []) = x := ⟨_, rfl⟩
  have HU : ∀ W, Calls Tryd.prog 46 #[.string (bs P.path)] W fun e w' => e = .returned (.tuple #[.string (bs pu), .int .i64 (pkN P.path : Nat), .bool (unpackB P.path)]) ∧ New W w' := fun W => by
    have := unpack_any (bs P.path) hp W
    rw [L_bs] at this
    rw [← hpu, show bs (if unpackB P.path then unN P.path else []) = if unpackB P.path then bs (unN P.path) else bs [] by split <;> rfl]
    exact this
  have HPU : Hid ((if unpackB P.path then unN P.path else []) = pu) := hpu
  clear hpu
  generalize pkN P.path = pz at *
  obtain ⟨kn, hkn⟩ : ∃ x, numN P.kind = x := ⟨_, rfl⟩
  have HKN : Hid (numN P.kind = kn) := hkn
  rw [hkn] at HN
  clear hkn
  obtain ⟨hB, hhB⟩ : ∃ x, (decide (numN P.kind = 1) || (decide (numN P.kind = 3) && decide (P.has = [1]))) = x := ⟨_, rfl⟩
  have HHB : Hid ((decide (numN P.kind = 1) || (decide (numN P.kind = 3) && decide (P.has = [1]))) = hB) := hhB
  obtain ⟨mN, hmNN⟩ : ∃ x, itM P = x := ⟨_, rfl⟩
  have hmN : mN < 65536 := by
    rw [← hmNN]
    unfold itM
    split
    · omega
    · split
      · exact numN_le _ hm
      · omega
  have HMN : Hid (itM P = mN) := hmNN
  clear hhB hmNN
  go_enter Tryd.func24, Tryd.ntmps24
  go_wp2_with (first
    | (refine wpList_box_at (by rfl) 1 (by rfl) 44 _ (by rfl) _ (by rfl) ?_; intro W1 R1 N1)
    | (refine wpList_alloc_at (by rfl) 2 (by rfl) 24 (by rfl) _ _ _ info24 ?_; intro W2 R2 N2))
  have Rb := R1.after N2
  have N := N1.trans N2
  have hb := Rb.lt
  have hbz : w.heap.size < W1.heap.size := R1.lt
  have hz := R2.lt
  have Rz : Row W2 W1.heap.size itZ 24 := R2
  have hwz : w.heap.size ≤ W1.heap.size := by omega
  generalize W1.heap.size = z at *
  obtain ⟨b, hbb⟩ : ∃ b, w.heap.size = b := ⟨_, rfl⟩
  have HB : Hid (w.heap.size = b) := hbb
  rw [hbb] at Rb hb hbz ⊢
  clear R1 R2 N1 N2 hbb
  have c0 : W2.cell? ⟨b, 0, none⟩ = some (.string (bs P.kind)) := Rb.cell 0
  have c5 : W2.cell? ⟨b, 5, none⟩ = some (.string (bs P.value)) := Rb.cell 5
  have hne1 : b ≠ W2.heap.size := by omega
  have hne2 : W2.heap.size ≠ b := by omega
  have hnz : z ≠ W2.heap.size := by omega
  simp only [Act.put, List.setIfInBounds_toArray, List.set_cons_zero, List.set_cons_succ]
  go_cut [3] from 5 to 11 (fun s3 wx => ∃ g, s3 = .pointer (some ⟨g, 0, none⟩) ∧ Row wx g (itR (kn : Int) [] false P.value 0 (.slice none 0 0)) 24 ∧ Row wx b (ptC P) 44 ∧ Row wx z itZ 24 ∧ New w wx ∧ b < g ∧ z < g)
  case first =>
    go_region_held3 (fun w' => w'.cell? ⟨b, 0, none⟩ = some (.string (bs P.kind)) ∧ w'.cell? ⟨b, 5, none⟩ = some (.string (bs P.value)))
      (go_keep)
      ((first | (go_at_call 41; refine (HN _).mono ?_; rintro _ w1 ⟨rfl, rfl⟩) | (go_at_call 45; refine (HCl _).mono ?_; rintro _ w1 ⟨rfl, k1⟩; have Rb1 : Row w1 b (ptC P) 44 := (by first | exact Row.after (w := W2.drew) Rb k1 | exact Row.after (Row.alloc (w := W2.drew) Rb _) k1); have Rz1 : Row w1 z itZ 24 := (by first | exact Row.after (w := W2.drew) Rz k1 | exact Row.after (Row.alloc (w := W2.drew) Rz _) k1); have m0 : w1.cell? ⟨b, 0, none⟩ = some (.string (bs P.kind)) := Rb1.cell 0; have m5 : w1.cell? ⟨b, 5, none⟩ = some (.string (bs P.value)) := Rb1.cell 5; first | (have R1 : Row w1 W2.heap.size itZ 24 := Row.after (Row.new W2.drew itZ 24) k1; have z0 : w1.cell? ⟨W2.heap.size, 0, none⟩ = some (.int .i64 0) := R1.cell 0; have z1 : w1.cell? ⟨W2.heap.size, 1, none⟩ = some (.string ⟨#[]⟩) := R1.cell 1; have z2 : w1.cell? ⟨W2.heap.size, 2, none⟩ = some (.bool false) := R1.cell 2; have z3 : w1.cell? ⟨W2.heap.size, 3, none⟩ = some (.string ⟨#[]⟩) := R1.cell 3; have z4 : w1.cell? ⟨W2.heap.size, 4, none⟩ = some (.int .i64 0) := R1.cell 4; have z5 : w1.cell? ⟨W2.heap.size, 5, none⟩ = some (.slice none 0 0) := R1.cell 5; have y0 := R1.frozen 0; have y1 := R1.frozen 1; have y2 := R1.frozen 2; have y3 := R1.frozen 3; have y4 := R1.frozen 4; have y5 := R1.frozen 5) | skip)))
    all_goals go_wp2_with fail
    all_goals go_meet
    · have ls := k1.size
      exact ⟨w1.heap.size, rfl, Row.new w1 (itR (kn : Int) [] false P.value 0 (.slice none 0 0)) 24, Rb1.alloc _, Rz1.alloc _, ((N.trans (New.drew W2)).trans k1).alloc _, Nat.lt_of_lt_of_le hb ls, Nat.lt_of_lt_of_le hz ls⟩
    · exact ⟨W2.heap.size, rfl, six_row R1 (.int .i64 (kn : Int)) (.string ⟨#[]⟩) (.bool false) (.string (bs P.value)) (.int .i64 0) (.slice none 0 0), six_other Rb1 hne1 (.int .i64 (kn : Int)) (.string ⟨#[]⟩) (.bool false) (.string (bs P.value)) (.int .i64 0) (.slice none 0 0), six_other Rz1 hnz (.int .i64 (kn : Int)) (.string ⟨#[]⟩) (.bool false) (.string (bs P.value)) (.int .i64 0) (.slice none 0 0), six_new (((N.trans (New.drew W2)).alloc _).trans k1) N.size (.int .i64 (kn : Int)) (.string ⟨#[]⟩) (.bool false) (.string (bs P.value)) (.int .i64 0) (.slice none 0 0), hb, hz⟩
    · exact ⟨W2.heap.size, rfl, six_row R1 (.int .i64 (kn : Int)) (.string ⟨#[]⟩) (.bool false) (.string (bs P.value)) (.int .i64 0) (.slice none 0 0), six_other Rb1 hne1 (.int .i64 (kn : Int)) (.string ⟨#[]⟩) (.bool false) (.string (bs P.value)) (.int .i64 0) (.slice none 0 0), six_other Rz1 hnz (.int .i64 (kn : Int)) (.string ⟨#[]⟩) (.bool false) (.string (bs P.value)) (.int .i64 0) (.slice none 0 0), six_new (((N.trans (New.drew W2)).alloc _).trans k1) N.size (.int .i64 (kn : Int)) (.string ⟨#[]⟩) (.bool false) (.string (bs P.value)) (.int .i64 0) (.slice none 0 0), hb, hz⟩
  case rest =>
    obtain ⟨g, rfl, R, Rb, Rz, N, hbg, hzg⟩ := hcut
    clear c0 c5 hne1 hne2 hnz HCl hb hz
    have hwg : w.heap.size ≤ g := by have := HB.out; omega
    have c1 : wc.cell? ⟨b, 1, none⟩ = some (.string (bs P.path)) := Rb.cell 1
    go_wp2_with fail
    refine (HU _).mono ?_
    rintro _ W3 ⟨rfl, N3⟩
    replace R := R.after N3
    replace Rb := Rb.after N3
    replace Rz := Rz.after N3
    replace N := N.trans N3
    clear c1 N3
    have y1 : W3.cell? ⟨g, 1, none⟩ = some (.string (bs [])) := R.cell 1
    have f1 := R.frozen 1
    have c0 : W3.cell? ⟨g, 0, none⟩ = some (.int .i64 (kn : Int)) := R.cell 0
    replace R := R.set 1 (.string (bs pu))
    rw [set_ip] at R
    have hb1 : b ≠ g := by omega
    have hz1 : z ≠ g := by omega
    replace Rb := Rb.setOther (a := ⟨g, 1, none⟩) hb1 (.string (bs pu))
    replace Rz := Rz.setOther (a := ⟨g, 1, none⟩) hz1 (.string (bs pu))
    replace N := N.setCell (a := ⟨g, 1, none⟩) hwg (.string (bs pu))
    go_upto_block 0 with fail
    clear y1 f1 c0
    generalize W3.setCell ⟨g, 1, none⟩ (.string (bs pu)) = W4 at *
    go_cut [] from 5 to 37 (fun wx => Row wx g (itR (kn : Int) pu hB P.value (mN : Int) (.slice none 0 0)) 24 ∧ Row wx b (ptC P) 44 ∧ Row wx z itZ 24 ∧ New w wx)
    case first =>
      have y2 : W4.cell? ⟨g, 2, none⟩ = some (.bool false) := R.cell 2
      have f2 := R.frozen 2
      have y4 : W4.cell? ⟨g, 4, none⟩ = some (.int .i64 0) := R.cell 4
      have f4 := R.frozen 4
      have hb2 : g ≠ b := by omega
      by_cases k1 : kn = 1
      · have d1 : ((kn : Int) == 1) = true := by rw [int_beq]; exact decide_eq_true (by omega)
        have hBt : hB = true := by rw [← HHB.out, decide_eq_true (by rw [HKN.out]; exact k1)]; rfl
        have hMt : mN = 0 := by rw [← HMN.out]; unfold itM; rw [HKN.out, if_neg (by omega), if_neg (by omega)]
        clear k1
        go_wp2_with fail
        go_meet
        case rel =>
          rw [hBt, hMt]
          exact ⟨(set_ihas (kn : Int) pu false P.value 0 (.slice none 0 0) true) ▸ R.set 2 (.bool true), Rb.setOther (a := ⟨g, 2, none⟩) hb1 _, Rz.setOther (a := ⟨g, 2, none⟩) hz1 _, N.setCell (a := ⟨g, 2, none⟩) hwg _⟩
      · have d1 : ((kn : Int) == 1) = false := by rw [int_beq]; exact decide_eq_false (by omega)
        by_cases k2 : kn = 2
        · have d2 : ((kn : Int) == 2) = true := by rw [int_beq]; exact decide_eq_true (by omega)
          have hBt : hB = false := by rw [← HHB.out, HKN.out, decide_eq_false k1, decide_eq_false (by omega)]; rfl
          have hMt : mN = 1 := by rw [← HMN.out]; unfold itM; rw [HKN.out, if_pos k2]
          clear k1 k2
          go_wp2_with fail
          go_meet
          case rel =>
            rw [hBt, hMt]
            exact ⟨(set_im (kn : Int) pu false P.value 0 (.slice none 0 0) 1) ▸ R.set 4 (.int .i64 1), Rb.setOther (a := ⟨g, 4, none⟩) hb1 _, Rz.setOther (a := ⟨g, 4, none⟩) hz1 _, N.setCell (a := ⟨g, 4, none⟩) hwg _⟩
        · have d2 : ((kn : Int) == 2) = false := by rw [int_beq]; exact decide_eq_false (by omega)
          by_cases k3 : kn = 3
          · have d3 : ((kn : Int) == 3) = true := by rw [int_beq]; exact decide_eq_true (by omega)
            have e3 : (bs P.has).toList = P.has := by rw [toList_L, L_bs]
            have c3 : W4.cell? ⟨b, 3, none⟩ = some (.string (bs P.has)) := Rb.cell 3
            have c2 : W4.cell? ⟨b, 2, none⟩ = some (.string (bs P.mask)) := Rb.cell 2
            have d4 : (P.has == [1]) = hB := by
              rw [← HHB.out, HKN.out, decide_eq_false k1, decide_eq_true k3, Bool.false_or, Bool.true_and]
              by_cases h : P.has = [1] <;> simp [h]
            have hMt : numN P.mask = mN := by rw [← HMN.out]; unfold itM; rw [HKN.out, if_neg k2, if_pos k3]
            have HNM := number_any P.mask hm
            rw [hMt] at HNM
            clear k1 k2 k3 hMt
            go_wp2_with fail
            refine (HNM _).mono ?_
            rintro _ W5 ⟨rfl, hW5⟩
            replace R := R.set 2 (.bool hB)
            rw [set_ihas] at R
            replace Rb := Rb.setOther (a := ⟨g, 2, none⟩) hb1 (.bool hB)
            replace Rz := Rz.setOther (a := ⟨g, 2, none⟩) hz1 (.bool hB)
            replace N := N.setCell (a := ⟨g, 2, none⟩) hwg (.bool hB)
            rw [← hW5] at R Rb Rz N
            clear hW5 y2 f2 y4 f4 c3 c2
            have y4 : W5.cell? ⟨g, 4, none⟩ = some (.int .i64 0) := R.cell 4
            have f4 := R.frozen 4
            go_wp2_with fail
            go_meet
            case rel =>
              exact ⟨(set_im (kn : Int) pu hB P.value 0 (.slice none 0 0) (mN : Int)) ▸ R.set 4 (.int .i64 (mN : Int)), Rb.setOther (a := ⟨g, 4, none⟩) hb1 _, Rz.setOther (a := ⟨g, 4, none⟩) hz1 _, N.setCell (a := ⟨g, 4, none⟩) hwg _⟩
          · have d3 : ((kn : Int) == 3) = false := by rw [int_beq]; exact decide_eq_false (by omega)
            have hBt : hB = false := by rw [← HHB.out, HKN.out, decide_eq_false k1, decide_eq_false k3]; rfl
            have hMt : mN = 0 := by rw [← HMN.out]; unfold itM; rw [HKN.out, if_neg k2, if_neg k3]
            clear k1 k2 k3
            go_wp2_with fail
            go_meet
            case rel =>
              rw [hBt, hMt]
              exact ⟨R, Rb, Rz, N⟩
    case rest =>
      clear R Rb Rz N
      obtain ⟨R, Rb, Rz, N⟩ := hcut
      have HC := children_any mN hmN
      obtain ⟨n, hn⟩ : ∃ x, popN mN = x := ⟨_, rfl⟩
      have hn16 : n ≤ 16 := by rw [← hn]; exact popN_le mN
      rw [hn] at HC
      have HPN : Hid (popN mN = n) := hn
      have c4 : wc.cell? ⟨g, 4, none⟩ = some (.int .i64 (mN : Int)) := R.cell 4
      obtain ⟨i0, hi0, hz0, hz1', hz2⟩ := info_parts info9
      clear hn
      go_wp2_with fail
      refine (HC _).mono ?_
      rintro _ W5 ⟨rfl, hW5⟩
      rw [← hW5] at R Rb Rz N
      clear hW5 c4
      obtain ⟨B, hBB⟩ : ∃ x, W5.heap.size = x := ⟨_, rfl⟩
      have hgB : g < B := by rw [← hBB]; exact R.lt
      have hBle : B ≤ W5.heap.size := by omega
      clear hBB
      go_wp2_with fail
      go_loopw [41] (fun i wr => ∃ k : Nat, k ≤ n ∧ i = .int .i64 (k : Int) ∧ ∃ v, Row wr g (itR (kn : Int) pu hB P.value (mN : Int) v) 24 ∧ wr.ownsRow B 9 1 v k ((P.hs.take k).map fun h => Value.string (bs h)) ∧ Row wr b (ptC P) 44 ∧ Row wr z itZ 24 ∧ New w wr ∧ B ≤ wr.heap.size) (fun i _ => n - (intOf i).toNat)
      case atStart => exact ⟨0, by omega, rfl, _, R, World.ownsRow_nil _ _ _ _, Rb, Rz, N, hBle⟩
      case round =>
        clear R Rb Rz N hBle
        obtain ⟨k, hk', rfl, v, R, hown, Rb, Rz, N, hBle⟩ := hrel
        by_cases hlt : k < n
        · have hlt' : (k : Int) < (n : Int) := by omega
          have hk16 : (k : Int) < 16 := by omega
          obtain ⟨y, hy⟩ : ∃ y, P.hs[k]? = some y := ⟨_, List.getElem?_eq_getElem (by omega)⟩
          have hyl : y.length ≤ 4000 := hh y (List.mem_of_getElem? hy)
          have HS : Hid ((P.hs.take k).map (fun h => Value.string (bs h)) ++ [.string (bs y)] = (P.hs.take (k + 1)).map fun h => Value.string (bs h)) := by
            show _ = _
            rw [List.take_add_one, hy, List.map_append]; rfl
          have c5 : wr.cell? ⟨g, 5, none⟩ = some v := R.cell 5
          have c6 : wr.cell? ⟨b, 6 + k, none⟩ = some (.string (bs y)) := (Rb.cell (6 + k)).trans (ptC_hs hy)
          have HCl := clone_any y hyl
          generalize (P.hs.take k).map (fun h => Value.string (bs h)) = xs at *
          clear hy
          go_wp2_with fail
          refine region_take [0, 1, 2, 3, 4, 5] [6, 7, 8, 9] 10 (HasTwo ⟨g, 5, none⟩ v ⟨b, 6 + k, none⟩ (.string (bs y))) ⟨⟨wr.drew, c5, c6⟩, rfl⟩ (by kernel_rfl) (by kernel_rfl) (fun d _ _ _ _ h => by cases d <;> exact h) ?_
          simp only [pick, List.getElem?_cons_succ, List.getElem?_cons_zero, Option.toList_some, List.cons_append, List.nil_append]
          have hne : Nonempty (TwoW ⟨g, 5, none⟩ v ⟨b, 6 + k, none⟩ (.string (bs y))) := ⟨⟨wr, c5, c6⟩⟩
          have q5 : ∀ q : TwoW ⟨g, 5, none⟩ v ⟨b, 6 + k, none⟩ (.string (bs y)), q.w.cell? ⟨g, 5, none⟩ = some v := fun q => q.h1
          have q6 : ∀ q : TwoW ⟨g, 5, none⟩ v ⟨b, 6 + k, none⟩ (.string (bs y)), q.w.cell? ⟨b, 6 + k, none⟩ = some (.string (bs y)) := fun q => q.h2
          unfold HasTwo
          repeat (go_big_quiet_step (fail))
          refine wpQuiet_nil ?_
          clear q5 q6 hne
          refine wpPre_call (some 50) 45 #[.string (bs y)] (by rfl) (by rfl) (by rfl) (by go_simp) ?_
          refine (HCl _).mono ?_
          rintro _ w5 ⟨rfl, k5⟩
          have M5 : New wr w5 := (New.drew wr).trans k5
          have l5 := M5.size
          have c5' := (M5.cell R.lt).trans c5
          have c6' := (M5.cell Rb.lt).trans c6
          refine ⟨_, rfl, ⟨⟨w5, c5', c6'⟩, rfl⟩, ?_⟩
          simp only [Act.put, List.setIfInBounds_toArray, List.set_cons_zero, List.set_cons_succ]
          have hb1b := run_buildCell (P := Tryd.prog) w5 22 9 (.string (bs y)) _ _ Tryd.underlying22 info9 rfl
          have M6 : New wr (w5.alloc (.cells #[.string (bs y)] 9)) := M5.alloc _
          have hnews : Row (w5.alloc (.cells #[.string (bs y)] 9)) w5.heap.size #[.string (bs y)] 9 := Row.new w5 _ 9
          have hsz : (w5.alloc (.cells #[.string (bs y)] 9)).heap.size = w5.heap.size + 1 := by simp
          replace R := R.after M6
          replace Rb := Rb.after M6
          replace Rz := Rz.after M6
          replace N := N.trans M6
          have hown5 := owns_of hown (fun b _ hlt => M6.block b hlt)
          have hbl := fun j hj => (hown.lt j hj).1
          generalize w5.alloc (.cells #[.string (bs y)] 9) = w7 at *
          refine wpPre_run (some 51) _ w7 (by rfl) (by rfl) (by rfl) (exec_buildSlice (by rfl) (by rfl) hb1b) ⟨⟨w7, R.cell 5, (M6.cell (by show b < wr.heap.size; omega)).trans c6⟩, rfl⟩ ?_
          simp only [Act.put, List.setIfInBounds_toArray, List.set_cons_zero, List.set_cons_succ]
          obtain ⟨gg, cap, w6, hr6, hown6, hgrow, _, _⟩ := run_append_lies (P := Tryd.prog) w7 22 22 B 9 i0 _ 1 16 Tryd.underlying22 hi0 hz0 hz1' hz2 rfl (by decide) v k xs hown5 ⟨w5.heap.size, 0, none⟩ 1 1 [.string (bs y)] rfl (World.news_of_block (cs := #[.string (bs y)]) hnews) (by simp [Value.oneCell']) (by decide) (by unfold maxLen; omega) (by omega) (by omega) w7.heap.size rfl
          clear hown hown5 k5 hb1b hnews M5
          have hn1 : ∀ x, x < B → v.ownBlock ≠ some x := fun x hx h => by have := hbl x h; omega
          have hs6 := hgrow.size
          have R6 := R.of (hgrow.block g R.lt (fun e => hn1 g hgB e.symm))
          have Rb6 := Rb.of (hgrow.block b Rb.lt (fun e => hn1 b (by omega) e.symm))
          have Rz6 := Rz.of (hgrow.block z Rz.lt (fun e => hn1 z (by omega) e.symm))
          have N6 := N.grown hgrow (fun x hx => by have := hbl x hx; have := HB.out; omega)
          have y5 : w6.cell? ⟨g, 5, none⟩ = some v := R6.cell 5
          have f5 := R6.frozen 5
          refine wpPre_run (some 52) _ w6 (by rfl) (by rfl) (by rfl) (exec_append (by rfl) (by rfl) (by rfl) hr6) ⟨⟨w6, y5, (Rb6.cell (6 + k)).trans ((Rb.cell (6 + k)).symm.trans ((M6.cell (by show b < wr.heap.size; omega)).trans c6))⟩, rfl⟩ ?_
          simp only [Act.put, List.setIfInBounds_toArray, List.set_cons_zero, List.set_cons_succ]
          refine wpPre_run (some 53) (.pointer (some ⟨g, 5, none⟩)) w6 (by rfl) (by rfl) (by rfl) (by go_simp) ⟨⟨w6, y5, (Rb6.cell (6 + k)).trans ((Rb.cell (6 + k)).symm.trans ((M6.cell (by show b < wr.heap.size; omega)).trans c6))⟩, rfl⟩ ?_
          simp only [Act.put, List.setIfInBounds_toArray, List.set_cons_zero, List.set_cons_succ]
          refine wpPre_nil ?_
          clear R Rb Rz N hgrow hr6 c5 c6 c5' c6' M6
          rw [HS.out] at hown6
          go_wp2_with fail
          exact ⟨⟨k + 1, by omega, by go_num, .slice (some ⟨gg, 0, none⟩) (k + 1) cap, (set_ih (kn : Int) pu hB P.value (mN : Int) v _) ▸ R6.set 5 _, owns_of hown6 (fun x hx _ => Below.heap_setCell _ _ _ _ (by show x ≠ g; omega)), Rb6.setOther (a := ⟨g, 5, none⟩) hb1 _, Rz6.setOther (a := ⟨g, 5, none⟩) hz1 _, N6.setCell (a := ⟨g, 5, none⟩) hwg _, by simp [World.setCell]; omega⟩, by simp [intOf]; omega⟩
        · obtain rfl : k = n := by omega
          have hlen : (P.hs.take k).length = k := by rw [List.length_take]; omega
          obtain ⟨a, c, rfl, hT, hTB⟩ := owns_tx hlen hown
          rw [hlen] at R
          have hIt : Hid (itV (itP P) a c = .agg (itR (kn : Int) pu hB P.value (mN : Int) (.slice a k c)) ∧ (itP P).hs = P.hs.take k) := by
            have e1 : itP P = ⟨(kn : Int), pu, hB, P.value, (mN : Int), P.hs.take k⟩ := by
              unfold itP
              rw [HKN.out, HPU.out, HMN.out, HPN.out, ← HHB.out, HKN.out]
            rw [e1]
            refine ⟨?_, rfl⟩
            show Value.agg #[.int .i64 (kn : Int), .string (bs pu), .bool hB, .string (bs P.value), .int .i64 (mN : Int), .slice a (P.hs.take k).length c] = _
            rw [hlen]
            rfl
          clear hown
          go_wp2_with (first
            | refine wpList_load_row (by rfl) 24 _ (by rfl) g (by rfl) 24 _ (0, 0) _ R Tryd.underlying24 rfl i24 ?_
            | (refine wpList_store_new (by rfl) 24 _ _ (by rfl) z (itR (kn : Int) pu hB P.value (mN : Int) (.slice a k c)) (by rfl) (by rfl) 24 itZ Rz i24 rfl (itR_one _ _ _ _ _ _ _ _) ?_; intro Wf Rf Bf))
          exact bodyPost_ret (results_cell_row rfl _ _ z 24 (itR (kn : Int) pu hB P.value (mN : Int) (.slice a k c)) (0, 0) _ rfl Rf Tryd.underlying24 rfl i24) rfl ⟨Bf.new N hwz, a, c, by rw [hIt.out.1], by rw [hIt.out.2]; exact hT.of fun x hx _ => Bf.block _ (by have := hTB x hx; omega), fun x hx => by have := hTB x hx; have := HB.out; omega⟩

end Go.Proofs.YtecamiefpdkjoaaDoor
namespace Go.Proofs.YtecamiefpdkjoaaDoor
open Go.RowKit
set_option maxRecDepth 20000
set_option linter.unusedVariables false

def strL (l : List (List UInt8)) : List Value := l.map fun h => Value.string (bs h)
theorem strL_length (l : List (List UInt8)) : (strL l).length = l.length := by unfold strL; simp
theorem strL_get {l : List (List UInt8)} {i : Nat} {c : List UInt8} (h : l[i]? = some c) : (strL l)[i]? = some (.string (bs c)) := by unfold strL; rw [List.getElem?_map, h]; rfl
theorem part9 (l : List (List UInt8)) (i : Nat) (c : List UInt8) (h : l[i]? = some c) (w : World) : (part 9 (strL l).toArray i).run Tryd.prog w = .ok (.string (bs c)) w := by
  have h1 := strL_get h
  simp [part, isAgg, run_underlying Tryd.underlying9, h1]
theorem beq_bs (a b : List UInt8) : ((bs a).toList == (bs b).toList) = (a == b) := by rw [toList_L, toList_L, L_bs, L_bs]
theorem eqS (d : Nat) (a b : List UInt8) (w : World) : (Op.equalIn (d + 1) 9 (.string (bs a)) (.string (bs b))).run Tryd.prog w = .ok (a == b) w := by
  rw [run_equalIn_string (P := Tryd.prog) w d 9 _ _ Tryd.underlying9, beq_bs]

theorem eq_loop (d : Nat) (p q : List (List UInt8)) (hl : p.length = q.length) (w : World) (K : Option Bool × Unit → Sem Bool) (k0 : K (none, ()) = pure true) (k1 : K (some false, ()) = pure false) : ∀ (m s : Nat), s + m = p.length →
    (Sem.run Tryd.prog
      (forIn (List.range' s m) ((none, ()) : Option Bool × Unit) fun i (_ : Option Bool × Unit) => do
        let x ← part 9 (strL p).toArray (i * 1)
        let y ← part 9 (strL q).toArray (i * 1)
        let z ← Op.equalIn (d + 1) 9 x y
        if (!z) = true then pure (ForInStep.done (some false, ())) else pure (ForInStep.yield (none, ())))
      w).andThen (fun a w' => Sem.run Tryd.prog (K a) w') = .ok (p.drop s == q.drop s) w
  | 0, s, h => by
    rw [List.drop_eq_nil_of_le (by omega), List.drop_eq_nil_of_le (by omega)]
    simp [k0]
  | m + 1, s, h => by
    have hs : s < p.length := by omega
    have hs' : s < q.length := by omega
    have ih := eq_loop d p q hl w K k0 k1 m (s + 1) (by omega)
    rw [List.range'_succ, List.forIn_cons, Sem.run_bind]
    simp only [Sem.run_bind, Nat.mul_one, part9 p s p[s] (List.getElem?_eq_getElem hs), part9 q s q[s] (List.getElem?_eq_getElem hs'), Result.andThen_ok, eqS]
    rw [List.drop_eq_getElem_cons hs, List.drop_eq_getElem_cons hs', List.cons_beq_cons]
    by_cases e : p[s] = q[s]
    · rw [e]
      simpa using ih
    · have h2 : (p[s] == q[s]) = false := by rw [beq_eq_false_iff_ne]; exact e
      simp [h2, k1]

theorem eq_texts (d n : Nat) (t : TypeId) (ht : Tryd.prog.underlying t = some (.array n 9)) (p q : List (List UInt8)) (hp : p.length = n) (hq : q.length = n) (w : World) :
    (Op.equalIn (d + 1 + 1) t (.agg (strL p).toArray) (.agg (strL q).toArray)).run Tryd.prog w = .ok (p == q) w := by
  obtain ⟨i0, hi0, hz0, hz1, hz2⟩ := info_parts info9
  rw [Op.equalIn]
  simp only [Sem.run_bind, run_underlying ht, Result.andThen_ok]
  simp only [sizeOf, typeInfo, Std.Legacy.Range.forIn_eq_forIn_range', Std.Legacy.Range.size, Sem.run_bind, run_program, hi0, Result.andThen_ok, Sem.run_pure, hz1, Nat.sub_zero, Nat.add_sub_cancel, Nat.div_one]
  exact eq_loop d p q (by omega) w _ rfl rfl n 0 (by omega)

/-- Are they the same pieces? -/
def eqPt (P Q : Pt) : Bool := P.kind == Q.kind && (P.path == Q.path && (P.mask == Q.mask && (P.has == Q.has && (P.size == Q.size && (P.value == Q.value && (P.hs == Q.hs && P.rest == Q.rest))))))
theorem eqPt_iff (P Q : Pt) : eqPt P Q = true ↔ P = Q := by
  obtain ⟨a, b, c, d, e, f, g, h⟩ := P
  obtain ⟨a', b', c', d', e', f', g', h'⟩ := Q
  simp only [eqPt, Bool.and_eq_true, beq_iff_eq, Pt.mk.injEq]

theorem eq_parts (P Q : Pt) (hP : P.hs.length = 16) (hQ : Q.hs.length = 16) (w : World) :
    (Op.equalIn 10000 44 (.agg (ptC P)) (.agg (ptC Q))).run Tryd.prog w = .ok (eqPt P Q) w := by
  have e : Tryd.prog.fieldsOf 44 = #[⟨ "kind", 9, 0, false, "", "umbel/node", 0⟩, ⟨ "path", 9, 1, false, "", "umbel/node", 16⟩, ⟨ "mask", 9, 2, false, "", "umbel/node", 32⟩, ⟨ "has", 9, 3, false, "", "umbel/node", 48⟩, ⟨ "size", 9, 4, false, "", "umbel/node", 64⟩, ⟨ "value", 9, 5, false, "", "umbel/node", 80⟩, ⟨ "hashes", 42, 6, false, "", "umbel/node", 96⟩, ⟨ "rest", 9, 22, false, "", "umbel/node", 352⟩] := by
    unfold Program.fieldsOf; rw [Tryd.underlying44]
  obtain ⟨i0, hi0⟩ : ∃ i, Tryd.prog.info? 42 = some i ∧ i.size = 16 := by
    have h0 : (Tryd.prog.info? 42).map (·.size) = some 16 := by kernel_rfl
    cases hi : Tryd.prog.info? 42 with
    | none => rw [hi] at h0; cases h0
    | some i => rw [hi] at h0; exact ⟨i, rfl, by simpa using h0⟩
  have hx : ∀ P : Pt, P.hs.length = 16 → (ptC P).extract 6 (6 + 16) = (strL P.hs).toArray := fun P h => by
    unfold ptC
    rw [List.extract_toArray, List.extract_eq_take_drop]
    show ((((P.hs.map fun h => Value.string (bs h)) ++ [Value.string (bs P.rest)])).take 16).toArray = _
    rw [List.take_left' (by rw [List.length_map]; exact h)]
    rfl
  have p0 : ∀ P : Pt, ∀ w, (part 9 (ptC P) 0).run Tryd.prog w = .ok (.string (bs P.kind)) w := fun P w => by simp [part, isAgg, run_underlying Tryd.underlying9, ptC, ptL]
  have p1 : ∀ P : Pt, ∀ w, (part 9 (ptC P) 1).run Tryd.prog w = .ok (.string (bs P.path)) w := fun P w => by simp [part, isAgg, run_underlying Tryd.underlying9, ptC, ptL]
  have p2 : ∀ P : Pt, ∀ w, (part 9 (ptC P) 2).run Tryd.prog w = .ok (.string (bs P.mask)) w := fun P w => by simp [part, isAgg, run_underlying Tryd.underlying9, ptC, ptL]
  have p3 : ∀ P : Pt, ∀ w, (part 9 (ptC P) 3).run Tryd.prog w = .ok (.string (bs P.has)) w := fun P w => by simp [part, isAgg, run_underlying Tryd.underlying9, ptC, ptL]
  have p4 : ∀ P : Pt, ∀ w, (part 9 (ptC P) 4).run Tryd.prog w = .ok (.string (bs P.size)) w := fun P w => by simp [part, isAgg, run_underlying Tryd.underlying9, ptC, ptL]
  have p5 : ∀ P : Pt, ∀ w, (part 9 (ptC P) 5).run Tryd.prog w = .ok (.string (bs P.value)) w := fun P w => by simp [part, isAgg, run_underlying Tryd.underlying9, ptC, ptL]
  have p22 : ∀ P : Pt, P.hs.length = 16 → ∀ w, (part 9 (ptC P) 22).run Tryd.prog w = .ok (.string (bs P.rest)) w := fun P h w => by
    have h1 := get_rest P h
    simp [part, isAgg, run_underlying Tryd.underlying9, h1]
  have p6 : ∀ P : Pt, P.hs.length = 16 → ∀ w, (part 42 (ptC P) 6).run Tryd.prog w = .ok (.agg (strL P.hs).toArray) w := fun P h w => by
    have h1 := hx P h
    simp only [part, isAgg, Sem.run_bind, run_underlying Tryd.underlying42, Result.andThen_ok, sizeOf, typeInfo, run_program, hi0.1, Sem.run_pure, if_true, hi0.2]
    rw [h1]
  rw [show (10000 : Nat) = 9999 + 1 from rfl, run_equalIn_struct w 9999 44 _ _ (by rw [e]; exact Tryd.underlying44) (by kernel_rfl), e]
  have q9 : ∀ a b w, (Op.equalIn 9999 9 (.string (bs a)) (.string (bs b))).run Tryd.prog w = .ok (a == b) w := fun a b w => eqS 9998 a b w
  have q42 : (Op.equalIn 9999 42 (.agg (strL P.hs).toArray) (.agg (strL Q.hs).toArray)).run Tryd.prog w = .ok (P.hs == Q.hs) w := eq_texts 9997 16 42 Tryd.underlying42 P.hs Q.hs hP hQ w
  simp only [Op.eqFields, ne_eq, String.reduceEq, not_false_eq_true, if_true, Sem.run_bind, p0, p1, p2, p3, p4, p5, p6 P hP, p6 Q hQ, p22 P hP, p22 Q hQ, Result.andThen_ok, q9, q42, Sem.run_ite, Sem.run_pure]
  unfold eqPt
  cases P.kind == Q.kind
  · rfl
  cases P.path == Q.path
  · rfl
  cases P.mask == Q.mask
  · rfl
  cases P.has == Q.has
  · rfl
  cases P.size == Q.size
  · rfl
  cases P.value == Q.value
  · rfl
  cases P.hs == Q.hs
  · rfl
  cases P.rest == Q.rest <;> rfl
theorem guard44 : Tryd.prog.eqGuardType Tryd.prog.depth 44 = false := by kernel_rfl

end Go.Proofs.YtecamiefpdkjoaaDoor
namespace Go.Proofs.YtecamiefpdkjoaaDoor
open Go.RowKit
set_option maxRecDepth 20000
set_option linter.unusedVariables false

theorem mem_pad {hs : List (List UInt8)} {x : List UInt8} (h : x ∈ pad16 hs) : x ∈ hs ∨ x = [] := by
  unfold pad16 at h
  rcases List.mem_append.1 h with h | h
  · exact .inl h
  · exact .inr (List.mem_replicate.1 h).2
theorem mem_cut {l : List UInt8} {n : Nat} {x : List UInt8} (h : x ∈ cutH l n) : x.length ≤ 32 := by
  unfold cutH at h
  obtain ⟨j, _, rfl⟩ := List.mem_map.1 h
  rw [List.length_take]; omega
structure PtOk (P : Pt) : Prop where
  kind : P.kind.length ≤ 1
  path : P.path.length ≤ 4000
  mask : P.mask.length ≤ 2
  value : P.value.length ≤ 4000
  n : P.hs.length = 16
  h : ∀ h ∈ P.hs, h.length ≤ 4000
theorem in_ok (l : List UInt8) (hl : l.length ≤ 4000) : PtOk (inP l) := by
  unfold inP
  split
  · unfold leafP
    refine ⟨by simp; omega, by simp; omega, by simp, by simp; omega, by simp, fun h hh => by rw [(List.mem_replicate.1 hh).2]; simp⟩
  · split
    · unfold extP
      refine ⟨by simp; omega, by simp; omega, by simp, by simp, pad16_length _ (by simp), fun h hh => ?_⟩
      rcases mem_pad hh with h1 | h1
      · obtain rfl : h = _ := by simpa using h1
        rw [List.length_take]; omega
      · rw [h1]; simp
    · split
      · have hp := popN_le (numN ((l.drop 1).take 2))
        unfold brP
        split
        · unfold brV
          refine ⟨by simp; omega, by simp, by simp; omega, by simp; omega, pad16_length _ (by rw [cutH_length]; exact hp), fun h hh => ?_⟩
          rcases mem_pad hh with h1 | h1
          · have := mem_cut h1; omega
          · rw [h1]; simp
        · unfold brV
          refine ⟨by simp; omega, by simp, by simp; omega, by simp, pad16_length _ (by rw [cutH_length]; exact hp), fun h hh => ?_⟩
          rcases mem_pad hh with h1 | h1
          · have := mem_cut h1; omega
          · rw [h1]; simp
      · exact ⟨by simp; omega, by simp, by simp, by simp, by simp, fun h hh => by rw [(List.mem_replicate.1 hh).2]; simp⟩
theorem unN_le (l : List UInt8) : (unN l).length ≤ 256 := by
  cases l with
  | nil => simp [unN]
  | cons c r =>
    show ((ofL (r.take ((c.toNat + 1) / 2))).take c.toNat).length ≤ 256
    have := c.toNat_lt
    rw [List.length_take]; omega
theorem it_small {P : Pt} (h : PtOk P) : Small (itP P) := by
  refine ⟨?_, h.value, ?_, ?_⟩
  · show (if unpackB P.path then unN P.path else []).length ≤ 4000
    split
    · have := unN_le P.path; omega
    · simp
  · show (P.hs.take _).length ≤ _
    have := h.n
    rw [List.length_take]; omega
  · intro x hx
    have := h.h x (List.mem_of_mem_take hx)
    omega
theorem built24_none : Tryd.prog.built 24 [] = some itZ := by kernel_rfl
theorem itZ_one : itZ.all (·.oneCell') = true := by simp [itZ, Value.oneCell']
theorem itC_one (I : It) (a : Option Addr) (c : Nat) : (itC I a c).all (·.oneCell') = true := by simp [itC, Value.oneCell']
theorem decB_eq (l : List UInt8) : decB l = (goodI (itP (inP l)) && eqPt (inP l) (ptOf (itP (inP l)))) := by
  rw [Bool.eq_iff_iff, decB_iff, Bool.and_eq_true, eqPt_iff]
  exact ⟨fun h => ⟨h.1, h.2.symm⟩, fun h => ⟨h.1, h.2.symm⟩⟩

/-- An Item that was decoded, or none. -/
def MadeG (w : World) (D : Bool) (I : It) (e : Ending) (w' : World) : Prop :=
  New w w' ∧ if D = true then ∃ a c, e = .returned (.tuple #[itV I a c, .bool true]) ∧ Tx w' a I.hs else e = .returned (.tuple #[.agg itZ, .bool false])
theorem MadeG.no {w w' : World} {D : Bool} {I : It} (h : D = false) (n : New w w') : MadeG w D I (.returned (.tuple #[.agg itZ, .bool false])) w' := ⟨n, by rw [h, if_neg Bool.false_ne_true]⟩
theorem MadeG.yes {w w' : World} {D : Bool} {I : It} (h : D = true) (n : New w w') (a : Option Addr) (c : Nat) (hT : Tx w' a I.hs) : MadeG w D I (.returned (.tuple #[.agg (itC I a c), .bool true])) w' := ⟨n, by rw [h, if_pos rfl]; exact ⟨a, c, rfl, hT⟩⟩

set_option maxHeartbeats 4000000 in
theorem decode_any (l : List UInt8) (hl : l.length ≤ 4000) (w : World) (hTab : Tab w) :
    Calls Tryd.prog 11 #[.string (bs l)] w fun e w' => MadeG w (decB l) (itP (inP l)) e w' := by
  have hP := in_ok l hl
  have hS := it_small hP
  have HIn := partsIn_any l hl
  have HIt := item_any (inP l) hP.n hP.kind hP.mask hP.path hP.value hP.h
  have HNo := fun h W a c hT => partsOf_no (itP (inP l)) hS h a c W hT
  have HYes := fun h W a c hT hT2 => partsOf_yes (itP (inP l)) hS h a c W hT hT2
  have HEq := fun h W => eq_parts (inP l) (ptOf (itP (inP l))) hP.n (ptOf16 _ h) W
  have H16 := fun h => ptOf16 (itP (inP l)) h
  have HD : Hid (decB l = (goodI (itP (inP l)) && eqPt (inP l) (ptOf (itP (inP l))))) := decB_eq l
  have sP := s44 hP.n
  have mP := same44 pz16 hP.n
  have oP := ptC_one (inP l)
  generalize decB l = D at *
  generalize inP l = P at *
  generalize ptOf (itP P) = Q at *
  generalize itP P = I at *
  have HTb : Hid (Tab w) := hTab
  clear hP hS hTab
  have gd := guard44
  go_enter Tryd.func11, Tryd.ntmps11
  go_wp2_with (refine wpList_alloc_at (by rfl) 2 (by rfl) 24 (by rfl) _ _ _ info24 ?_; intro W1 R1 N1)
  have Rz : Row W1 w.heap.size itZ 24 := R1
  have hwz : w.heap.size ≤ w.heap.size := Nat.le_refl _
  have rz := Rz.lt
  generalize hz : w.heap.size = z at Rz rz
  have hwz : w.heap.size ≤ z := by omega
  clear R1
  refine (HIn _).mono ?_
  rintro _ W2 ⟨rfl, N2⟩
  replace Rz := Rz.after N2
  have N := N1.trans N2
  have rz := Rz.lt
  have lw := N.size
  clear N1 N2 HIn
  go_wp2_with (first
    | (refine wpList_alloc_at (by rfl) 4 (by rfl) 44 (by rfl) _ _ _ info44 ?_; intro W3 R3 N3)
    | (refine wpList_store_new (by rfl) 44 _ _ (by rfl) W2.heap.size (ptC P) (by rfl) (by rfl) 44 _ R3 sP mP oP ?_; intro W4 Rp B4)
    | refine wpList_load_row (by rfl) 44 _ (by rfl) W2.heap.size (by rfl) 44 _ (0, 0) _ Rp Tryd.underlying44 rfl sP ?_)
  have N' : New w W4 := B4.new (N.trans N3) lw
  have Rz' : Row W4 z itZ 24 := (Rz.after N3).but B4 (by omega)
  have hzp : z < W2.heap.size := rz
  have hwp : w.heap.size ≤ W2.heap.size := lw
  generalize W2.heap.size = p at *
  clear Rz N R3 N3 B4 rz lw
  have hz4 := Rz'.lt
  refine (HIt _).mono ?_
  rintro _ W5 ⟨N5, a, c, rfl, hT, hTn⟩
  have hxz : ∀ x, a = some x → x.block ≠ z := fun x hx e => by have := hTn x hx; omega
  replace Rp := Rp.after N5
  replace Rz' := Rz'.after N5
  replace N' := N'.trans N5
  have rp := Rp.lt
  have lw := N'.size
  clear N5 HIt
  go_wp2_with (first
    | (refine wpList_alloc_at (by rfl) 5 (by rfl) 24 (by rfl) _ _ _ info24 ?_; intro W6 R6 N6)
    | (refine wpList_store_new (by rfl) 24 _ _ (by rfl) W5.heap.size (itC I a c) (by rfl) (by rfl) 24 _ R6 i24 rfl (itC_one _ _ _) ?_; intro W7 Ri B7)
    | refine wpList_load_row (by rfl) 24 _ (by rfl) W5.heap.size (by rfl) 24 _ (0, 0) _ Ri Tryd.underlying24 rfl i24 ?_)
  have N7 : New w W7 := B7.new (N'.trans N6) lw
  have Rz7 : Row W7 z itZ 24 := (Rz'.after N6).but B7 (by omega)
  have Rp7 : Row W7 p (ptC P) 44 := (Rp.after N6).but B7 (by omega)
  have hT7 : Tx W7 a I.hs := hT.of fun x _ hlt => (B7.block _ (by omega)).trans (N6.block _ hlt)
  have hzi : z < W5.heap.size := Rz'.lt
  have hpi : p < W5.heap.size := rp
  have hwi : w.heap.size ≤ W5.heap.size := lw
  generalize W5.heap.size = t at *
  clear Rz' Rp hT N' R6 N6 B7 rp lw
  cases hg : goodI I
  · rw [hg] at HD
    have HDf : Hid (D = false) := HD.out
    have HN := HNo hg
    clear HYes HEq H16 HD
    refine (HN _ _ _ hT7).mono ?_
    rintro _ W8 ⟨rfl, N8⟩
    replace Ri := Ri.after N8
    replace Rz7 := Rz7.after N8
    replace N7 := N7.trans N8
    have lz := Rz7.lt
    have lw := N7.size
    clear Rp7 hT7 N8 HN HNo
    go_wp2_with (first
      | (refine wpList_alloc_at (by rfl) 6 (by rfl) 44 (by rfl) _ _ _ info44 ?_; intro W9 R9 N9)
      | (refine wpList_store_new (by rfl) 44 _ _ (by rfl) W8.heap.size (ptC ptZ) (by rfl) (by rfl) 44 (ptC ptZ) R9 (s44 pz16) rfl (ptC_one _) ?_; intro Wa Ra Ba; have Rza : Row Wa z itZ 24 := (Rz7.after N9).but Ba (by omega); have Na : New w Wa := Ba.new (N7.trans N9) lw)
      | refine wpList_build0 (by rfl) 24 (by rfl) itZ built24_none ?_
      | (refine wpList_store_new (by rfl) 24 _ _ (by rfl) z itZ (by rfl) (by rfl) 24 itZ Rza i24 rfl itZ_one ?_; intro Wb Rb Bb))
    exact bodyPost_ret (results_cell_tmp rfl _ _ z 24 itZ (0, 0) _ (.bool false) rfl rfl Rb Tryd.underlying24 rfl i24) rfl (MadeG.no HDf.out (Bb.new Na hwz))
  · rw [hg] at HD
    have HDt : Hid (D = eqPt P Q) := HD.out
    have HY := HYes hg
    have HE := HEq hg
    have sQ := s44 (H16 hg)
    have mQ := same44 pz16 (H16 hg)
    have oQ := ptC_one Q
    clear HNo HYes HEq H16 HD
    generalize eqPt P Q = E at *
    refine (HY _ _ _ hT7 (HTb.out.kept N7)).mono ?_
    rintro _ W8 ⟨rfl, N8⟩
    replace Ri := Ri.after N8
    replace Rz7 := Rz7.after N8
    replace Rp7 := Rp7.after N8
    replace hT7 := hT7.after N8
    replace N7 := N7.trans N8
    have lz := Rz7.lt
    have lp := Rp7.lt
    have lt := Ri.lt
    have lw := N7.size
    clear N8 HY
    generalize ptC P = cP at *
    generalize ptC Q = cQ at *
    cases E
    · go_wp2_with (first
        | (refine wpList_alloc_at (by rfl) 6 (by rfl) 44 (by rfl) _ _ _ info44 ?_; intro W9 R9 N9)
        | (refine wpList_store_new (by rfl) 44 _ _ (by rfl) W8.heap.size cQ (by rfl) (by rfl) 44 _ R9 sQ mQ oQ ?_; intro Wa Ra Ba; have Rza : Row Wa z itZ 24 := (Rz7.after N9).but Ba (by omega); have Rpa : Row Wa p cP 44 := (Rp7.after N9).but Ba (by omega); have Na : New w Wa := Ba.new (N7.trans N9) lw)
        | refine wpList_load_want (by rfl) 44 _ (by rfl) p (by rfl) 44 cP _ Rpa Tryd.underlying44 rfl sP ?_
        | refine wpList_load_want (by rfl) 44 _ (by rfl) W8.heap.size (by rfl) 44 cQ _ Ra Tryd.underlying44 rfl sQ ?_
        | refine wpList_build0 (by rfl) 24 (by rfl) itZ built24_none ?_
        | (refine wpList_store_new (by rfl) 24 _ _ (by rfl) z itZ (by rfl) (by rfl) 24 itZ Rza i24 rfl itZ_one ?_; intro Wb Rb Bb))
      exact bodyPost_ret (results_cell_tmp rfl _ _ z 24 itZ (0, 0) _ (.bool false) rfl rfl Rb Tryd.underlying24 rfl i24) rfl (MadeG.no HDt.out (Bb.new Na hwz))
    · go_wp2_with (first
        | (refine wpList_alloc_at (by rfl) 6 (by rfl) 44 (by rfl) _ _ _ info44 ?_; intro W9 R9 N9)
        | (refine wpList_store_new (by rfl) 44 _ _ (by rfl) W8.heap.size cQ (by rfl) (by rfl) 44 _ R9 sQ mQ oQ ?_; intro Wa Ra Ba; have Rza : Row Wa z itZ 24 := (Rz7.after N9).but Ba (by omega); have Rpa : Row Wa p cP 44 := (Rp7.after N9).but Ba (by omega); have Ria : Row Wa t (itC I a c) 24 := (Ri.after N9).but Ba (by omega); have hTa : Tx Wa a I.hs := hT7.of (fun x _ hlt => (Ba.block _ (by omega)).trans (N9.block _ hlt)); have Na : New w Wa := Ba.new (N7.trans N9) lw)
        | refine wpList_load_want (by rfl) 44 _ (by rfl) p (by rfl) 44 cP _ Rpa Tryd.underlying44 rfl sP ?_
        | refine wpList_load_want (by rfl) 44 _ (by rfl) W8.heap.size (by rfl) 44 cQ _ Ra Tryd.underlying44 rfl sQ ?_
        | refine wpList_load_row (by rfl) 24 _ (by rfl) t (by rfl) 24 (itC I a c) (0, 0) _ Ria Tryd.underlying24 rfl i24 ?_
        | (refine wpList_store_new (by rfl) 24 _ _ (by rfl) z (itC I a c) (by rfl) (by rfl) 24 itZ Rza i24 rfl (itC_one _ _ _) ?_; intro Wb Rb Bb))
      exact bodyPost_ret (results_cell_tmp rfl _ _ z 24 (itC I a c) (0, 0) _ (.bool true) rfl rfl Rb Tryd.underlying24 rfl i24) rfl (MadeG.yes HDt.out (Bb.new Na hwz) a c (hTa.of fun x hx hlt => Bb.block _ (hxz x hx)))

end Go.Proofs.YtecamiefpdkjoaaDoor
namespace Go.Proofs.YtecamiefpdkjoaaDoor
open Go.RowKit
set_option maxRecDepth 20000
set_option linter.unusedVariables false

def hash1 (v : UInt8) : List UInt8 := List.replicate 32 v
set_option maxHeartbeats 1000000 in
theorem hash1_any (v : UInt8) (w : World) : Calls Tryd.prog 19 #[.int .u8 (v.toNat : Int)] w fun e w' => e = .returned (.string (bs (hash1 v))) ∧ New w w' := by
  obtain ⟨i0, hi0, hz0, hz1, hz2⟩ := info_parts info5
  have hmk := run_make (P := Tryd.prog) w 56 5 i0 _ Tryd.underlying56 hi0 hz0 .i64 .i64 32 32 (by omega) (by omega) (by rw [hz2]; omega) (by omega)
  have hrow : madeCells (Value.int .u8 0).cells ((32 : Int).toNat * i0.size) = (cellsL (List.replicate 32 0)).toArray := by
    rw [hz1]
    apply Array.ext'
    show (madeCells #[Value.int .u8 0] 32).toList = _
    rw [toList_madeCells_one]
    unfold cellsL
    rw [List.map_replicate]; rfl
  rw [hrow] at hmk
  have R0 := Row.new w (cellsL (List.replicate 32 0)).toArray 5
  have N0 : New w (w.alloc (.cells (cellsL (List.replicate 32 0)).toArray 5)) := (New.refl w).alloc _
  generalize w.alloc (.cells (cellsL (List.replicate 32 0)).toArray 5) = W at hmk R0 N0
  have hmk' : Sem.run Tryd.prog (Instr.makeSlice 56 (.int .i64 32) (.int .i64 32)) w = .ok (.slice (some ⟨w.heap.size, 0, none⟩) 32 32) W := hmk
  clear hmk hrow
  go_enter Tryd.func19, Tryd.ntmps19
  go_wp2_with fail
  clear hmk'
  go_loopw [4] (fun i wr => ∃ k : Nat, k ≤ 32 ∧ i = .int .i64 (k : Int) ∧ Row wr w.heap.size (cellsL (List.replicate k v ++ List.replicate (32 - k) 0)).toArray 5 ∧ New w wr) (fun i _ => 32 - (intOf i).toNat)
  case atStart => exact ⟨0, by omega, rfl, by simpa using R0, N0⟩
  case round =>
    clear R0 N0
    obtain ⟨k, hk, rfl, R1, N1⟩ := hrel
    by_cases hlt : k < 32
    · have hlt' : (k : Int) < 32 := by omega
      have hsz : (cellsL (List.replicate k v ++ List.replicate (32 - k) 0)).toArray.size = 32 := by rw [List.size_toArray, cellsL_length, List.length_append, List.length_replicate, List.length_replicate]; omega
      have hc : ∃ u, wr.cell? ⟨w.heap.size, k, none⟩ = some u := ⟨_, by rw [R1.cell, Array.getElem?_eq_getElem (by omega)]⟩
      obtain ⟨u, hu⟩ := hc
      have hf := R1.frozen k
      have R2 := R1.set k (.int .u8 (v.toNat : Int))
      have he : (cellsL (List.replicate k v ++ List.replicate (32 - k) 0)).toArray.setIfInBounds k (.int .u8 (v.toNat : Int)) = (cellsL (List.replicate (k + 1) v ++ List.replicate (32 - (k + 1)) 0)).toArray := by
        rw [List.setIfInBounds_toArray]
        unfold cellsL
        rw [show Value.int .u8 (v.toNat : Int) = (fun (c : UInt8) => Value.int .u8 (c.toNat : Int)) v from rfl, ← List.map_set]
        congr 2
        rw [List.set_append_right _ _ (by simp), List.length_replicate, Nat.sub_self, show 32 - k = (32 - (k + 1)) + 1 by omega, List.replicate_succ, List.set_cons_zero, List.replicate_succ', List.append_assoc]
        rfl
      rw [he] at R2
      have HR : Hid (Row (wr.setCell ⟨w.heap.size, k, none⟩ (.int .u8 (v.toNat : Int))) w.heap.size (cellsL (List.replicate (k + 1) v ++ List.replicate (32 - (k + 1)) 0)).toArray 5) := R2
      clear R1 R2 he hsz
      go_wp2_with fail
      exact ⟨⟨k + 1, by omega, by go_num, HR.out, N1.setCell (Nat.le_refl _) _⟩, by simp [intOf]; omega⟩
    · obtain rfl : k = 32 := by omega
      have hcv : (convert 56 9 (.slice (some ⟨w.heap.size, 0, none⟩) 32 32)).run Tryd.prog wr = .ok (.string (bs (hash1 v))) wr := by
        refine run_convert_bytes_back wr 56 9 5 ⟨w.heap.size, 0, none⟩ 32 (hash1 v) Tryd.underlying56 Tryd.underlying5 Tryd.underlying9 (fun j hj => ?_)
        rw [Addr.add_mid, Nat.zero_add, R1.cell, List.getElem?_toArray, Nat.sub_self, List.replicate_zero, List.append_nil]
        exact cellsL_get (List.getElem?_eq_getElem hj)
      clear R1
      go_wp2_with fail
      go_ret
      exact ⟨rfl, N1⟩

/-- How much there is of texts, up to a limit each. -/
def sumT (hs : List (List UInt8)) : Nat → Nat
  | 0 => 0
  | k + 1 => sumT hs k + (1 + min ((hs.getD k []).length) 3000)
theorem sumT_mono (hs : List (List UInt8)) (k j : Nat) : sumT hs k ≤ sumT hs (k + j) := by
  induction j with
  | zero => exact Nat.le_refl _
  | succ j ih => show sumT hs k ≤ sumT hs (k + j) + _; omega
theorem sumT_le (hs : List (List UInt8)) {k n : Nat} (h : k ≤ n) : sumT hs k ≤ sumT hs n := by
  obtain ⟨j, rfl⟩ : ∃ j, n = k + j := ⟨n - k, by omega⟩
  exact sumT_mono hs k j
theorem sumT_ge (hs : List (List UInt8)) (n : Nat) : n ≤ sumT hs n := by
  induction n with
  | zero => exact Nat.zero_le _
  | succ n ih => show n + 1 ≤ sumT hs n + _; omega
def longH (hs : List (List UInt8)) : Bool := decide (3000 < sumT hs hs.length)
theorem longH_small {hs : List (List UInt8)} (h : longH hs = false) : hs.length ≤ 3000 ∧ ∀ x ∈ hs, x.length ≤ 3000 := by
  have h1 := of_decide_eq_false h
  refine ⟨by have := sumT_ge hs hs.length; omega, fun x hx => ?_⟩
  obtain ⟨j, hj⟩ := List.getElem?_of_mem hx
  have hlt := (List.getElem?_eq_some_iff.1 hj).1
  have h2 := sumT_le hs (show j + 1 ≤ hs.length by omega)
  have h3 : sumT hs (j + 1) = sumT hs j + (1 + min ((hs.getD j []).length) 3000) := rfl
  have h4 : hs.getD j [] = x := by rw [List.getD_eq_getElem?_getD, hj]; rfl
  rw [h4] at h3
  omega
set_option maxHeartbeats 1000000 in
theorem keepLong_any (hs : List (List UInt8)) (a : Option Addr) (c : Nat) (w : World) (hT : Tx w a hs) :
    Calls Tryd.prog 20 #[.slice a hs.length c, .int .i64 3000] w fun e w' => e = .returned (.bool (longH hs)) ∧ w' = w := by
  have HT : Hid (Tx w a hs) := hT
  clear hT
  go_enter Tryd.func20, Tryd.ntmps20
  go_wp2_with fail
  go_loop [5, 6] (fun n i => ∃ k : Nat, k ≤ hs.length ∧ i = .int .i64 (k : Int) ∧ n = .int .i64 ((sumT hs k : Nat) : Int) ∧ sumT hs k ≤ 6001) (fun _ i => hs.length - (intOf i).toNat)
  case atStart => exact ⟨0, by omega, rfl, rfl, by show 0 ≤ 6001; omega⟩
  case round =>
    obtain ⟨k, hk, rfl, rfl, hsum⟩ := hrel
    have hks := sumT_ge hs k
    by_cases hlt : k < hs.length
    · have n1 : decide ((k : Int) < (hs.length : Int)) = true := decide_eq_true (by omega)
      have n1' : decide (k < hs.length) = true := decide_eq_true hlt
      by_cases h3 : sumT hs k ≤ 3000
      · have n2 : decide (((sumT hs k : Nat) : Int) ≤ 3000) = true := decide_eq_true (by omega)
        have n2' : decide (sumT hs k ≤ 3000) = true := decide_eq_true h3
        obtain ⟨x, rfl, hx⟩ := HT.out (by omega)
        have hcell := hx k hs[k] (List.getElem?_eq_getElem hlt)
        have hsz : (bs hs[k]).size = hs[k].length := rfl
        obtain ⟨y, hy⟩ : ∃ y, min hs[k].length 3000 = y := ⟨_, rfl⟩
        have hy3 : y ≤ 3000 := by omega
        have hmin : min ((bs hs[k]).size : Int) 3000 = (y : Int) := by rw [hsz]; omega
        have HN : Hid (sumT hs (k + 1) = sumT hs k + (1 + y)) := by
          show _ = _
          rw [← hy]
          show sumT hs k + (1 + min ((hs.getD k []).length) 3000) = _
          rw [List.getD_eq_getElem?_getD, List.getElem?_eq_getElem hlt]; rfl
        clear hx hy hsz
        generalize sumT hs k = t at *
        generalize bs hs[k] = q at *
        go_wp2_with fail
        go_round
        case rel => exact ⟨k + 1, by omega, by go_num, by rw [HN.out]; go_num, by rw [HN.out]; omega⟩
        case measure => simp [intOf]; omega
      · have n2 : decide (((sumT hs k : Nat) : Int) ≤ 3000) = false := decide_eq_false (by omega)
        have n2' : decide (sumT hs k ≤ 3000) = false := decide_eq_false h3
        have n3 : decide ((3000 : Int) < ((sumT hs k : Nat) : Int)) = true := decide_eq_true (by omega)
        have n3' : decide (3000 < sumT hs k) = true := decide_eq_true (by omega)
        have HL : Hid (longH hs = true) := decide_eq_true (by have := sumT_le hs hk; omega)
        go_wp2_with fail
        go_ret
        exact ⟨ret_bool HL.out.symm, rfl⟩
    · have n1 : decide ((k : Int) < (hs.length : Int)) = false := decide_eq_false (by omega)
      have n1' : decide (k < hs.length) = false := decide_eq_false hlt
      obtain rfl : k = hs.length := by omega
      have HL : Hid (decide ((3000 : Int) < ((sumT hs hs.length : Nat) : Int)) = longH hs) := by
        show _ = _
        exact decide_eq_decide.2 (by omega)
      generalize sumT hs hs.length = t at *
      go_wp2_with fail
      go_ret
      exact ⟨ret_bool HL.out, rfl⟩

def longI (I : It) : Bool := decide (200 < I.p.length) || (decide (200 < I.v.length) || longH I.hs)
theorem longI_small {I : It} (h : longI I = false) : Small I ∧ I.p.length ≤ 200 ∧ I.v.length ≤ 200 ∧ I.hs.length ≤ 3000 := by
  unfold longI at h
  simp only [Bool.or_eq_false_iff, decide_eq_false_iff_not] at h
  have h1 := longH_small h.2.2
  exact ⟨⟨by omega, by omega, by omega, fun x hx => by have := h1.2 x hx; omega⟩, by omega, by omega, h1.1⟩
set_option maxHeartbeats 1000000 in
theorem long_any (I : It) (a : Option Addr) (c : Nat) (w : World) (hT : Tx w a I.hs) :
    Calls Tryd.prog 7 #[itV I a c] w fun e w' => e = .returned (.bool (longI I)) ∧ New w w' := by
  have HK := fun W h => keepLong_any I.hs a c W h
  obtain ⟨k, p, has, v, m, hs⟩ := I
  have HT : Hid (Tx w a hs) := hT
  obtain ⟨b1, hb1⟩ : ∃ b, decide (200 < p.length) = b := ⟨_, rfl⟩
  obtain ⟨b2, hb2⟩ : ∃ b, decide (200 < v.length) = b := ⟨_, rfl⟩
  have HL : Hid (longI ⟨k, p, has, v, m, hs⟩ = (b1 || (b2 || longH hs))) := by show _ = _; unfold longI; rw [hb1, hb2]
  rw [HL.out]
  have e1 : decide ((200 : Int) < ((bs p).size : Int)) = b1 := by rw [← hb1, bs_size]; exact decide_eq_decide.2 (by omega)
  have e2 : decide ((200 : Int) < ((bs v).size : Int)) = b2 := by rw [← hb2, bs_size]; exact decide_eq_decide.2 (by omega)
  have e1' : decide (200 < (bs p).size) = b1 := hb1
  have e2' : decide (200 < (bs v).size) = b2 := hb2
  have N0 : New w (w.alloc (.cells #[.int .i64 k, .string (bs p), .bool has, .string (bs v), .int .i64 m, .slice a hs.length c] 24)) := (New.refl w).alloc _
  clear HL hb1 hb2 hT
  show Calls Tryd.prog 7 #[.agg #[.int .i64 k, .string (bs p), .bool has, .string (bs v), .int .i64 m, .slice a hs.length c]] w _
  replace HK : ∀ W, Tx W a hs → Calls Tryd.prog 20 #[.slice a hs.length c, .int .i64 3000] W fun e w' => e = .returned (.bool (longH hs)) ∧ w' = W := HK
  generalize longH hs = b3 at *
  generalize bs p = sp at *
  generalize bs v = sv at *
  cases b1
  · cases b2
    · go_enter Tryd.func7, Tryd.ntmps7
      go_wp2_with fail
      refine (HK _ (HT.out.after N0)).mono ?_
      rintro e w1 ⟨rfl, rfl⟩
      cases b3
      all_goals
        go_wp2_with fail
        go_ret
        exact ⟨rfl, N0⟩
    · go_enter Tryd.func7, Tryd.ntmps7
      go_wp2_with fail
      go_ret
      exact ⟨rfl, N0⟩
  · go_enter Tryd.func7, Tryd.ntmps7
    go_wp2_with fail
    go_ret
    exact ⟨rfl, N0⟩

end Go.Proofs.YtecamiefpdkjoaaDoor
