/-
  What item returns: what a text's pieces tell, in memory of its own.
-/
import Derived.Test.YtecamiefpdkjoaaDoorNdIn
import Derived.Deep.CutRange
import Derived.Test.YtecamiefpdkjoaaDoorTake
import Derived.Deep.CutBlock
namespace Go.Proofs.YtecamiefpdkjoaaDoor
open Go.RowKit
set_option maxRecDepth 20000
set_option linter.unusedVariables false

theorem info24 : (Tryd.prog.info? 24).map (fun i => (i.zero, i.size, i.bytes)) = some (some (.agg #[.int .i64 0, .string ⟨#[]⟩, .bool false, .string ⟨#[]⟩, .int .i64 0, .slice none 0 0]), 6, 80) := by kernel_rfl
theorem info9 : (Tryd.prog.info? 9).map (fun i => (i.zero, i.size, i.bytes)) = some (some (.string ⟨#[]⟩), 1, 16) := by kernel_rfl
def itZ : Array Value := #[.int .i64 0, .string ⟨#[]⟩, .bool false, .string ⟨#[]⟩, .int .i64 0, .slice none 0 0]
theorem built24_two (k : Int) (s : ByteArray) : Tryd.prog.built 24 [(0, .int .i64 k), (3, .string s)] = some #[.int .i64 k, .string ⟨#[]⟩, .bool false, .string s, .int .i64 0, .slice none 0 0] := by kernel_rfl

/-- The cells of an Item that is being made. -/
def itR (k : Int) (p : List UInt8) (has : Bool) (v : List UInt8) (m : Int) (h : Value) : Array Value := #[.int .i64 k, .string (bs p), .bool has, .string (bs v), .int .i64 m, h]
theorem owns_of {w w' : World} {B : Nat} {t : TypeId} {k n : Nat} {v : Value} {xs : List Value} (h : w.ownsRow B t k v n xs) (e : ∀ b, B ≤ b → b < w.heap.size → w'.heap[b]? = w.heap[b]?) : w'.ownsRow B t k v n xs := by
  rcases h with ⟨h1, h2 | ⟨g, cap, cur, hv, hb, h3, h4⟩⟩
  · exact ⟨h1, .inl h2⟩
  · exact ⟨h1, .inr ⟨g, cap, cur, hv, hb, (e g hb (Array.getElem?_eq_some_iff.1 h3).1).trans h3, h4⟩⟩
theorem owns_tx {w : World} {B : Nat} {v : Value} {hs : List (List UInt8)} {n : Nat} (hn : hs.length = n) (h : w.ownsRow B 9 1 v n (hs.map fun h => Value.string (bs h))) : ∃ a c, v = .slice a hs.length c ∧ Tx w a hs ∧ ∀ x, a = some x → B ≤ x.block := by
  subst hn
  rcases h.2 with ⟨rfl, h0⟩ | ⟨g, cap, cur, rfl, hB, _⟩
  · exact ⟨none, 0, by rw [h0], fun h => by omega, fun x hx => by cases hx⟩
  · refine ⟨some ⟨g, 0, none⟩, cap, rfl, fun _ => ⟨_, rfl, fun i y hy => ?_⟩, fun x hx => by cases hx; exact hB⟩
    exact h.cells (g := g) rfl i _ (by rw [List.getElem?_map, hy]; rfl)
theorem itR_one (k : Int) (p : List UInt8) (has : Bool) (v : List UInt8) (m : Int) (a : Option Addr) (n c : Nat) : (itR k p has v m (.slice a n c)).all (·.oneCell') = true := by simp [itR, Value.oneCell']
/-- Six cells told anew. -/
def six (w : World) (g : Nat) (a0 a1 a2 a3 a4 a5 : Value) : World := (((((w.setCell ⟨g, 0, none⟩ a0).setCell ⟨g, 1, none⟩ a1).setCell ⟨g, 2, none⟩ a2).setCell ⟨g, 3, none⟩ a3).setCell ⟨g, 4, none⟩ a4).setCell ⟨g, 5, none⟩ a5
theorem six_row {w : World} {g : Nat} (R : Row w g itZ 24) (a0 a1 a2 a3 a4 a5 : Value) : Row (six w g a0 a1 a2 a3 a4 a5) g #[a0, a1, a2, a3, a4, a5] 24 := by
  have h := (((((R.set 0 a0).set 1 a1).set 2 a2).set 3 a3).set 4 a4).set 5 a5
  unfold itZ at h
  simp only [List.setIfInBounds_toArray, List.set_cons_zero, List.set_cons_succ] at h
  exact h
theorem six_other {w : World} {g b : Nat} {cs : Array Value} {t : TypeId} (R : Row w b cs t) (h : b ≠ g) (a0 a1 a2 a3 a4 a5 : Value) : Row (six w g a0 a1 a2 a3 a4 a5) b cs t :=
  (((((R.setOther (a := ⟨g, 0, none⟩) h a0).setOther (a := ⟨g, 1, none⟩) h a1).setOther (a := ⟨g, 2, none⟩) h a2).setOther (a := ⟨g, 3, none⟩) h a3).setOther (a := ⟨g, 4, none⟩) h a4).setOther (a := ⟨g, 5, none⟩) h a5
theorem six_new {w w1 : World} {g : Nat} (N : New w w1) (h : w.heap.size ≤ g) (a0 a1 a2 a3 a4 a5 : Value) : New w (six w1 g a0 a1 a2 a3 a4 a5) :=
  (((((N.setCell (a := ⟨g, 0, none⟩) h a0).setCell (a := ⟨g, 1, none⟩) h a1).setCell (a := ⟨g, 2, none⟩) h a2).setCell (a := ⟨g, 3, none⟩) h a3).setCell (a := ⟨g, 4, none⟩) h a4).setCell (a := ⟨g, 5, none⟩) h a5
theorem set_ip (k : Int) (p : List UInt8) (has : Bool) (v : List UInt8) (m : Int) (h : Value) (x : List UInt8) : (itR k p has v m h).setIfInBounds 1 (.string (bs x)) = itR k x has v m h := rfl
theorem set_ihas (k : Int) (p : List UInt8) (has : Bool) (v : List UInt8) (m : Int) (h : Value) (x : Bool) : (itR k p has v m h).setIfInBounds 2 (.bool x) = itR k p x v m h := rfl
theorem set_im (k : Int) (p : List UInt8) (has : Bool) (v : List UInt8) (m : Int) (h : Value) (x : Int) : (itR k p has v m h).setIfInBounds 4 (.int .i64 x) = itR k p has v x h := rfl
theorem set_ih (k : Int) (p : List UInt8) (has : Bool) (v : List UInt8) (m : Int) (h x : Value) : (itR k p has v m h).setIfInBounds 5 x = itR k p has v m x := rfl
/-- The worlds in which two cells have these values. -/
structure TwoW (a : Addr) (u : Value) (b : Addr) (v : Value) where
  w : World
  h1 : w.cell? a = some u
  h2 : w.cell? b = some v
def HasTwo (a : Addr) (u : Value) (b : Addr) (v : Value) (w : World) : Prop := ∃ q : TwoW a u b v, w = q.w
/-- A new Item. -/
def MadeI (w : World) (I : It) (e : Ending) (w' : World) : Prop := New w w' ∧ ∃ a c, e = .returned (itV I a c) ∧ Tx w' a I.hs ∧ ∀ x, a = some x → w.heap.size ≤ x.block

set_option maxHeartbeats 4000000 in
theorem item_any (P : Pt) (h16 : P.hs.length = 16) (hk : P.kind.length ≤ 1) (hm : P.mask.length ≤ 2) (hp : P.path.length ≤ 4000) (hv : P.value.length ≤ 4000) (hh : ∀ h ∈ P.hs, h.length ≤ 4000) (w : World) :
    Calls Tryd.prog 24 #[.agg (ptC P)] w fun e w' => MadeI w (itP P) e w' := by
  have HN := number_any P.kind (by omega)
  have HCl := clone_any P.value hv
  obtain ⟨pu, hpu⟩ : ∃ x, (if unpackB P.path then unN P.path else []) = x := ⟨_, rfl⟩
  have HU : ∀ W, Calls Tryd.prog 46 #[.string (bs P.path)] W fun e w' => e = .returned (.tuple #[.string (bs pu), .int .i64 (pkN P.path : Nat), .bool (unpackB P.path)]) ∧ New W w' := fun W => by
    have := unpack_any (bs P.path) hp W
    rw [L_bs] at this
    rw [← hpu, show bs (if unpackB P.path then unN P.path else []) = if unpackB P.path then bs (unN P.path) else bs [] by split <;> rfl]
    exact this
  have HPU : Hid ((if unpackB P.path then unN P.path else []) = pu) := hpu
  clear hpu
  generalize pkN P.path = pz at *
  obtain ⟨kn, hkn⟩ : ∃ x, numN P.kind = x := ⟨_, rfl⟩
  have HKN : Hid (numN P.kind = kn) := hkn
  rw [hkn] at HN
  clear hkn
  obtain ⟨hB, hhB⟩ : ∃ x, (decide (numN P.kind = 1) || (decide (numN P.kind = 3) && decide (P.has = [1]))) = x := ⟨_, rfl⟩
  have HHB : Hid ((decide (numN P.kind = 1) || (decide (numN P.kind = 3) && decide (P.has = [1]))) = hB) := hhB
  obtain ⟨mN, hmNN⟩ : ∃ x, itM P = x := ⟨_, rfl⟩
  have hmN : mN < 65536 := by
    rw [← hmNN]
    unfold itM
    split
    · omega
    · split
      · exact numN_le _ hm
      · omega
  have HMN : Hid (itM P = mN) := hmNN
  clear hhB hmNN
  go_enter Tryd.func24, Tryd.ntmps24
  go_wp2_with (first
    | (refine wpList_box_at (by rfl) 1 (by rfl) 44 _ (by rfl) _ (by rfl) ?_; intro W1 R1 N1)
    | (refine wpList_alloc_at (by rfl) 2 (by rfl) 24 (by rfl) _ _ _ info24 ?_; intro W2 R2 N2))
  have Rb := R1.after N2
  have N := N1.trans N2
  have hb := Rb.lt
  have hbz : w.heap.size < W1.heap.size := R1.lt
  have hz := R2.lt
  have Rz : Row W2 W1.heap.size itZ 24 := R2
  have hwz : w.heap.size ≤ W1.heap.size := by omega
  generalize W1.heap.size = z at *
  obtain ⟨b, hbb⟩ : ∃ b, w.heap.size = b := ⟨_, rfl⟩
  have HB : Hid (w.heap.size = b) := hbb
  rw [hbb] at Rb hb hbz ⊢
  clear R1 R2 N1 N2 hbb
  have c0 : W2.cell? ⟨b, 0, none⟩ = some (.string (bs P.kind)) := Rb.cell 0
  have c5 : W2.cell? ⟨b, 5, none⟩ = some (.string (bs P.value)) := Rb.cell 5
  have hne1 : b ≠ W2.heap.size := by omega
  have hne2 : W2.heap.size ≠ b := by omega
  have hnz : z ≠ W2.heap.size := by omega
  simp only [Act.put, List.setIfInBounds_toArray, List.set_cons_zero, List.set_cons_succ]
  go_cut [3] from 5 to 11 (fun s3 wx => ∃ g, s3 = .pointer (some ⟨g, 0, none⟩) ∧ Row wx g (itR (kn : Int) [] false P.value 0 (.slice none 0 0)) 24 ∧ Row wx b (ptC P) 44 ∧ Row wx z itZ 24 ∧ New w wx ∧ b < g ∧ z < g)
  case first =>
    go_region_held3 (fun w' => w'.cell? ⟨b, 0, none⟩ = some (.string (bs P.kind)) ∧ w'.cell? ⟨b, 5, none⟩ = some (.string (bs P.value)))
      (go_keep)
      ((first | (go_at_call 41; refine (HN _).mono ?_; rintro _ w1 ⟨rfl, rfl⟩) | (go_at_call 45; refine (HCl _).mono ?_; rintro _ w1 ⟨rfl, k1⟩; have Rb1 : Row w1 b (ptC P) 44 := (by first | exact Row.after (w := W2.drew) Rb k1 | exact Row.after (Row.alloc (w := W2.drew) Rb _) k1); have Rz1 : Row w1 z itZ 24 := (by first | exact Row.after (w := W2.drew) Rz k1 | exact Row.after (Row.alloc (w := W2.drew) Rz _) k1); have m0 : w1.cell? ⟨b, 0, none⟩ = some (.string (bs P.kind)) := Rb1.cell 0; have m5 : w1.cell? ⟨b, 5, none⟩ = some (.string (bs P.value)) := Rb1.cell 5; first | (have R1 : Row w1 W2.heap.size itZ 24 := Row.after (Row.new W2.drew itZ 24) k1; have z0 : w1.cell? ⟨W2.heap.size, 0, none⟩ = some (.int .i64 0) := R1.cell 0; have z1 : w1.cell? ⟨W2.heap.size, 1, none⟩ = some (.string ⟨#[]⟩) := R1.cell 1; have z2 : w1.cell? ⟨W2.heap.size, 2, none⟩ = some (.bool false) := R1.cell 2; have z3 : w1.cell? ⟨W2.heap.size, 3, none⟩ = some (.string ⟨#[]⟩) := R1.cell 3; have z4 : w1.cell? ⟨W2.heap.size, 4, none⟩ = some (.int .i64 0) := R1.cell 4; have z5 : w1.cell? ⟨W2.heap.size, 5, none⟩ = some (.slice none 0 0) := R1.cell 5; have y0 := R1.frozen 0; have y1 := R1.frozen 1; have y2 := R1.frozen 2; have y3 := R1.frozen 3; have y4 := R1.frozen 4; have y5 := R1.frozen 5) | skip)))
    all_goals go_wp2_with fail
    all_goals go_meet
    · have ls := k1.size
      exact ⟨w1.heap.size, rfl, Row.new w1 (itR (kn : Int) [] false P.value 0 (.slice none 0 0)) 24, Rb1.alloc _, Rz1.alloc _, ((N.trans (New.drew W2)).trans k1).alloc _, Nat.lt_of_lt_of_le hb ls, Nat.lt_of_lt_of_le hz ls⟩
    · exact ⟨W2.heap.size, rfl, six_row R1 (.int .i64 (kn : Int)) (.string ⟨#[]⟩) (.bool false) (.string (bs P.value)) (.int .i64 0) (.slice none 0 0), six_other Rb1 hne1 (.int .i64 (kn : Int)) (.string ⟨#[]⟩) (.bool false) (.string (bs P.value)) (.int .i64 0) (.slice none 0 0), six_other Rz1 hnz (.int .i64 (kn : Int)) (.string ⟨#[]⟩) (.bool false) (.string (bs P.value)) (.int .i64 0) (.slice none 0 0), six_new (((N.trans (New.drew W2)).alloc _).trans k1) N.size (.int .i64 (kn : Int)) (.string ⟨#[]⟩) (.bool false) (.string (bs P.value)) (.int .i64 0) (.slice none 0 0), hb, hz⟩
    · exact ⟨W2.heap.size, rfl, six_row R1 (.int .i64 (kn : Int)) (.string ⟨#[]⟩) (.bool false) (.string (bs P.value)) (.int .i64 0) (.slice none 0 0), six_other Rb1 hne1 (.int .i64 (kn : Int)) (.string ⟨#[]⟩) (.bool false) (.string (bs P.value)) (.int .i64 0) (.slice none 0 0), six_other Rz1 hnz (.int .i64 (kn : Int)) (.string ⟨#[]⟩) (.bool false) (.string (bs P.value)) (.int .i64 0) (.slice none 0 0), six_new (((N.trans (New.drew W2)).alloc _).trans k1) N.size (.int .i64 (kn : Int)) (.string ⟨#[]⟩) (.bool false) (.string (bs P.value)) (.int .i64 0) (.slice none 0 0), hb, hz⟩
  case rest =>
    obtain ⟨g, rfl, R, Rb, Rz, N, hbg, hzg⟩ := hcut
    clear c0 c5 hne1 hne2 hnz HCl hb hz
    have hwg : w.heap.size ≤ g := by have := HB.out; omega
    have c1 : wc.cell? ⟨b, 1, none⟩ = some (.string (bs P.path)) := Rb.cell 1
    go_wp2_with fail
    refine (HU _).mono ?_
    rintro _ W3 ⟨rfl, N3⟩
    replace R := R.after N3
    replace Rb := Rb.after N3
    replace Rz := Rz.after N3
    replace N := N.trans N3
    clear c1 N3
    have y1 : W3.cell? ⟨g, 1, none⟩ = some (.string (bs [])) := R.cell 1
    have f1 := R.frozen 1
    have c0 : W3.cell? ⟨g, 0, none⟩ = some (.int .i64 (kn : Int)) := R.cell 0
    replace R := R.set 1 (.string (bs pu))
    rw [set_ip] at R
    have hb1 : b ≠ g := by omega
    have hz1 : z ≠ g := by omega
    replace Rb := Rb.setOther (a := ⟨g, 1, none⟩) hb1 (.string (bs pu))
    replace Rz := Rz.setOther (a := ⟨g, 1, none⟩) hz1 (.string (bs pu))
    replace N := N.setCell (a := ⟨g, 1, none⟩) hwg (.string (bs pu))
    go_upto_block 0 with fail
    clear y1 f1 c0
    generalize W3.setCell ⟨g, 1, none⟩ (.string (bs pu)) = W4 at *
    go_cut [] from 5 to 37 (fun wx => Row wx g (itR (kn : Int) pu hB P.value (mN : Int) (.slice none 0 0)) 24 ∧ Row wx b (ptC P) 44 ∧ Row wx z itZ 24 ∧ New w wx)
    case first =>
      have y2 : W4.cell? ⟨g, 2, none⟩ = some (.bool false) := R.cell 2
      have f2 := R.frozen 2
      have y4 : W4.cell? ⟨g, 4, none⟩ = some (.int .i64 0) := R.cell 4
      have f4 := R.frozen 4
      have hb2 : g ≠ b := by omega
      by_cases k1 : kn = 1
      · have d1 : ((kn : Int) == 1) = true := by rw [int_beq]; exact decide_eq_true (by omega)
        have hBt : hB = true := by rw [← HHB.out, decide_eq_true (by rw [HKN.out]; exact k1)]; rfl
        have hMt : mN = 0 := by rw [← HMN.out]; unfold itM; rw [HKN.out, if_neg (by omega), if_neg (by omega)]
        clear k1
        go_wp2_with fail
        go_meet
        case rel =>
          rw [hBt, hMt]
          exact ⟨(set_ihas (kn : Int) pu false P.value 0 (.slice none 0 0) true) ▸ R.set 2 (.bool true), Rb.setOther (a := ⟨g, 2, none⟩) hb1 _, Rz.setOther (a := ⟨g, 2, none⟩) hz1 _, N.setCell (a := ⟨g, 2, none⟩) hwg _⟩
      · have d1 : ((kn : Int) == 1) = false := by rw [int_beq]; exact decide_eq_false (by omega)
        by_cases k2 : kn = 2
        · have d2 : ((kn : Int) == 2) = true := by rw [int_beq]; exact decide_eq_true (by omega)
          have hBt : hB = false := by rw [← HHB.out, HKN.out, decide_eq_false k1, decide_eq_false (by omega)]; rfl
          have hMt : mN = 1 := by rw [← HMN.out]; unfold itM; rw [HKN.out, if_pos k2]
          clear k1 k2
          go_wp2_with fail
          go_meet
          case rel =>
            rw [hBt, hMt]
            exact ⟨(set_im (kn : Int) pu false P.value 0 (.slice none 0 0) 1) ▸ R.set 4 (.int .i64 1), Rb.setOther (a := ⟨g, 4, none⟩) hb1 _, Rz.setOther (a := ⟨g, 4, none⟩) hz1 _, N.setCell (a := ⟨g, 4, none⟩) hwg _⟩
        · have d2 : ((kn : Int) == 2) = false := by rw [int_beq]; exact decide_eq_false (by omega)
          by_cases k3 : kn = 3
          · have d3 : ((kn : Int) == 3) = true := by rw [int_beq]; exact decide_eq_true (by omega)
            have e3 : (bs P.has).toList = P.has := by rw [toList_L, L_bs]
            have c3 : W4.cell? ⟨b, 3, none⟩ = some (.string (bs P.has)) := Rb.cell 3
            have c2 : W4.cell? ⟨b, 2, none⟩ = some (.string (bs P.mask)) := Rb.cell 2
            have d4 : (P.has == [1]) = hB := by
              rw [← HHB.out, HKN.out, decide_eq_false k1, decide_eq_true k3, Bool.false_or, Bool.true_and]
              by_cases h : P.has = [1] <;> simp [h]
            have hMt : numN P.mask = mN := by rw [← HMN.out]; unfold itM; rw [HKN.out, if_neg k2, if_pos k3]
            have HNM := number_any P.mask hm
            rw [hMt] at HNM
            clear k1 k2 k3 hMt
            go_wp2_with fail
            refine (HNM _).mono ?_
            rintro _ W5 ⟨rfl, hW5⟩
            replace R := R.set 2 (.bool hB)
            rw [set_ihas] at R
            replace Rb := Rb.setOther (a := ⟨g, 2, none⟩) hb1 (.bool hB)
            replace Rz := Rz.setOther (a := ⟨g, 2, none⟩) hz1 (.bool hB)
            replace N := N.setCell (a := ⟨g, 2, none⟩) hwg (.bool hB)
            rw [← hW5] at R Rb Rz N
            clear hW5 y2 f2 y4 f4 c3 c2
            have y4 : W5.cell? ⟨g, 4, none⟩ = some (.int .i64 0) := R.cell 4
            have f4 := R.frozen 4
            go_wp2_with fail
            go_meet
            case rel =>
              exact ⟨(set_im (kn : Int) pu hB P.value 0 (.slice none 0 0) (mN : Int)) ▸ R.set 4 (.int .i64 (mN : Int)), Rb.setOther (a := ⟨g, 4, none⟩) hb1 _, Rz.setOther (a := ⟨g, 4, none⟩) hz1 _, N.setCell (a := ⟨g, 4, none⟩) hwg _⟩
          · have d3 : ((kn : Int) == 3) = false := by rw [int_beq]; exact decide_eq_false (by omega)
            have hBt : hB = false := by rw [← HHB.out, HKN.out, decide_eq_false k1, decide_eq_false k3]; rfl
            have hMt : mN = 0 := by rw [← HMN.out]; unfold itM; rw [HKN.out, if_neg k2, if_neg k3]
            clear k1 k2 k3
            go_wp2_with fail
            go_meet
            case rel =>
              rw [hBt, hMt]
              exact ⟨R, Rb, Rz, N⟩
    case rest =>
      clear R Rb Rz N
      obtain ⟨R, Rb, Rz, N⟩ := hcut
      have HC := children_any mN hmN
      obtain ⟨n, hn⟩ : ∃ x, popN mN = x := ⟨_, rfl⟩
      have hn16 : n ≤ 16 := by rw [← hn]; exact popN_le mN
      rw [hn] at HC
      have HPN : Hid (popN mN = n) := hn
      have c4 : wc.cell? ⟨g, 4, none⟩ = some (.int .i64 (mN : Int)) := R.cell 4
      obtain ⟨i0, hi0, hz0, hz1', hz2⟩ := info_parts info9
      clear hn
      go_wp2_with fail
      refine (HC _).mono ?_
      rintro _ W5 ⟨rfl, hW5⟩
      rw [← hW5] at R Rb Rz N
      clear hW5 c4
      obtain ⟨B, hBB⟩ : ∃ x, W5.heap.size = x := ⟨_, rfl⟩
      have hgB : g < B := by rw [← hBB]; exact R.lt
      have hBle : B ≤ W5.heap.size := by omega
      clear hBB
      go_wp2_with fail
      go_loopw [41] (fun i wr => ∃ k : Nat, k ≤ n ∧ i = .int .i64 (k : Int) ∧ ∃ v, Row wr g (itR (kn : Int) pu hB P.value (mN : Int) v) 24 ∧ wr.ownsRow B 9 1 v k ((P.hs.take k).map fun h => Value.string (bs h)) ∧ Row wr b (ptC P) 44 ∧ Row wr z itZ 24 ∧ New w wr ∧ B ≤ wr.heap.size) (fun i _ => n - (intOf i).toNat)
      case atStart => exact ⟨0, by omega, rfl, _, R, World.ownsRow_nil _ _ _ _, Rb, Rz, N, hBle⟩
      case round =>
        clear R Rb Rz N hBle
        obtain ⟨k, hk', rfl, v, R, hown, Rb, Rz, N, hBle⟩ := hrel
        by_cases hlt : k < n
        · have hlt' : (k : Int) < (n : Int) := by omega
          have hk16 : (k : Int) < 16 := by omega
          obtain ⟨y, hy⟩ : ∃ y, P.hs[k]? = some y := ⟨_, List.getElem?_eq_getElem (by omega)⟩
          have hyl : y.length ≤ 4000 := hh y (List.mem_of_getElem? hy)
          have HS : Hid ((P.hs.take k).map (fun h => Value.string (bs h)) ++ [.string (bs y)] = (P.hs.take (k + 1)).map fun h => Value.string (bs h)) := by
            show _ = _
            rw [List.take_add_one, hy, List.map_append]; rfl
          have c5 : wr.cell? ⟨g, 5, none⟩ = some v := R.cell 5
          have c6 : wr.cell? ⟨b, 6 + k, none⟩ = some (.string (bs y)) := (Rb.cell (6 + k)).trans (ptC_hs hy)
          have HCl := clone_any y hyl
          generalize (P.hs.take k).map (fun h => Value.string (bs h)) = xs at *
          clear hy
          go_wp2_with fail
          refine region_take [0, 1, 2, 3, 4, 5] [6, 7, 8, 9] 10 (HasTwo ⟨g, 5, none⟩ v ⟨b, 6 + k, none⟩ (.string (bs y))) ⟨⟨wr.drew, c5, c6⟩, rfl⟩ (by kernel_rfl) (by kernel_rfl) (fun d _ _ _ _ h => by cases d <;> exact h) ?_
          simp only [pick, List.getElem?_cons_succ, List.getElem?_cons_zero, Option.toList_some, List.cons_append, List.nil_append]
          have hne : Nonempty (TwoW ⟨g, 5, none⟩ v ⟨b, 6 + k, none⟩ (.string (bs y))) := ⟨⟨wr, c5, c6⟩⟩
          have q5 : ∀ q : TwoW ⟨g, 5, none⟩ v ⟨b, 6 + k, none⟩ (.string (bs y)), q.w.cell? ⟨g, 5, none⟩ = some v := fun q => q.h1
          have q6 : ∀ q : TwoW ⟨g, 5, none⟩ v ⟨b, 6 + k, none⟩ (.string (bs y)), q.w.cell? ⟨b, 6 + k, none⟩ = some (.string (bs y)) := fun q => q.h2
          unfold HasTwo
          repeat (go_big_quiet_step (fail))
          refine wpQuiet_nil ?_
          clear q5 q6 hne
          refine wpPre_call (some 50) 45 #[.string (bs y)] (by rfl) (by rfl) (by rfl) (by go_simp) ?_
          refine (HCl _).mono ?_
          rintro _ w5 ⟨rfl, k5⟩
          have M5 : New wr w5 := (New.drew wr).trans k5
          have l5 := M5.size
          have c5' := (M5.cell R.lt).trans c5
          have c6' := (M5.cell Rb.lt).trans c6
          refine ⟨_, rfl, ⟨⟨w5, c5', c6'⟩, rfl⟩, ?_⟩
          simp only [Act.put, List.setIfInBounds_toArray, List.set_cons_zero, List.set_cons_succ]
          have hb1b := run_buildCell (P := Tryd.prog) w5 22 9 (.string (bs y)) _ _ Tryd.underlying22 info9 rfl
          have M6 : New wr (w5.alloc (.cells #[.string (bs y)] 9)) := M5.alloc _
          have hnews : Row (w5.alloc (.cells #[.string (bs y)] 9)) w5.heap.size #[.string (bs y)] 9 := Row.new w5 _ 9
          have hsz : (w5.alloc (.cells #[.string (bs y)] 9)).heap.size = w5.heap.size + 1 := by simp
          replace R := R.after M6
          replace Rb := Rb.after M6
          replace Rz := Rz.after M6
          replace N := N.trans M6
          have hown5 := owns_of hown (fun b _ hlt => M6.block b hlt)
          have hbl := fun j hj => (hown.lt j hj).1
          generalize w5.alloc (.cells #[.string (bs y)] 9) = w7 at *
          refine wpPre_run (some 51) _ w7 (by rfl) (by rfl) (by rfl) (exec_buildSlice (by rfl) (by rfl) hb1b) ⟨⟨w7, R.cell 5, (M6.cell (by show b < wr.heap.size; omega)).trans c6⟩, rfl⟩ ?_
          simp only [Act.put, List.setIfInBounds_toArray, List.set_cons_zero, List.set_cons_succ]
          obtain ⟨gg, cap, w6, hr6, hown6, hgrow, _, _⟩ := run_append_lies (P := Tryd.prog) w7 22 22 B 9 i0 _ 1 16 Tryd.underlying22 hi0 hz0 hz1' hz2 rfl (by decide) v k xs hown5 ⟨w5.heap.size, 0, none⟩ 1 1 [.string (bs y)] rfl (World.news_of_block (cs := #[.string (bs y)]) hnews) (by simp [Value.oneCell']) (by decide) (by unfold maxLen; omega) (by omega) (by omega) w7.heap.size rfl
          clear hown hown5 k5 hb1b hnews M5
          have hn1 : ∀ x, x < B → v.ownBlock ≠ some x := fun x hx h => by have := hbl x h; omega
          have hs6 := hgrow.size
          have R6 := R.of (hgrow.block g R.lt (fun e => hn1 g hgB e.symm))
          have Rb6 := Rb.of (hgrow.block b Rb.lt (fun e => hn1 b (by omega) e.symm))
          have Rz6 := Rz.of (hgrow.block z Rz.lt (fun e => hn1 z (by omega) e.symm))
          have N6 := N.grown hgrow (fun x hx => by have := hbl x hx; have := HB.out; omega)
          have y5 : w6.cell? ⟨g, 5, none⟩ = some v := R6.cell 5
          have f5 := R6.frozen 5
          refine wpPre_run (some 52) _ w6 (by rfl) (by rfl) (by rfl) (exec_append (by rfl) (by rfl) (by rfl) hr6) ⟨⟨w6, y5, (Rb6.cell (6 + k)).trans ((Rb.cell (6 + k)).symm.trans ((M6.cell (by show b < wr.heap.size; omega)).trans c6))⟩, rfl⟩ ?_
          simp only [Act.put, List.setIfInBounds_toArray, List.set_cons_zero, List.set_cons_succ]
          refine wpPre_run (some 53) (.pointer (some ⟨g, 5, none⟩)) w6 (by rfl) (by rfl) (by rfl) (by go_simp) ⟨⟨w6, y5, (Rb6.cell (6 + k)).trans ((Rb.cell (6 + k)).symm.trans ((M6.cell (by show b < wr.heap.size; omega)).trans c6))⟩, rfl⟩ ?_
          simp only [Act.put, List.setIfInBounds_toArray, List.set_cons_zero, List.set_cons_succ]
          refine wpPre_nil ?_
          clear R Rb Rz N hgrow hr6 c5 c6 c5' c6' M6
          rw [HS.out] at hown6
          go_wp2_with fail
          exact ⟨⟨k + 1, by omega, by go_num, .slice (some ⟨gg, 0, none⟩) (k + 1) cap, (set_ih (kn : Int) pu hB P.value (mN : Int) v _) ▸ R6.set 5 _, owns_of hown6 (fun x hx _ => Below.heap_setCell _ _ _ _ (by show x ≠ g; omega)), Rb6.setOther (a := ⟨g, 5, none⟩) hb1 _, Rz6.setOther (a := ⟨g, 5, none⟩) hz1 _, N6.setCell (a := ⟨g, 5, none⟩) hwg _, by simp [World.setCell]; omega⟩, by simp [intOf]; omega⟩
        · obtain rfl : k = n := by omega
          have hlen : (P.hs.take k).length = k := by rw [List.length_take]; omega
          obtain ⟨a, c, rfl, hT, hTB⟩ := owns_tx hlen hown
          rw [hlen] at R
          have hIt : Hid (itV (itP P) a c = .agg (itR (kn : Int) pu hB P.value (mN : Int) (.slice a k c)) ∧ (itP P).hs = P.hs.take k) := by
            have e1 : itP P = ⟨(kn : Int), pu, hB, P.value, (mN : Int), P.hs.take k⟩ := by
              unfold itP
              rw [HKN.out, HPU.out, HMN.out, HPN.out, ← HHB.out, HKN.out]
            rw [e1]
            refine ⟨?_, rfl⟩
            show Value.agg #[.int .i64 (kn : Int), .string (bs pu), .bool hB, .string (bs P.value), .int .i64 (mN : Int), .slice a (P.hs.take k).length c] = _
            rw [hlen]
            rfl
          clear hown
          go_wp2_with (first
            | refine wpList_load_row (by rfl) 24 _ (by rfl) g (by rfl) 24 _ (0, 0) _ R Tryd.underlying24 rfl i24 ?_
            | (refine wpList_store_new (by rfl) 24 _ _ (by rfl) z (itR (kn : Int) pu hB P.value (mN : Int) (.slice a k c)) (by rfl) (by rfl) 24 itZ Rz i24 rfl (itR_one _ _ _ _ _ _ _ _) ?_; intro Wf Rf Bf))
          exact bodyPost_ret (results_cell_row rfl _ _ z 24 (itR (kn : Int) pu hB P.value (mN : Int) (.slice a k c)) (0, 0) _ rfl Rf Tryd.underlying24 rfl i24) rfl ⟨Bf.new N hwz, a, c, by rw [hIt.out.1], by rw [hIt.out.2]; exact hT.of fun x hx _ => Bf.block _ (by have := hTB x hx; omega), fun x hx => by have := hTB x hx; have := HB.out; omega⟩

end Go.Proofs.YtecamiefpdkjoaaDoor
