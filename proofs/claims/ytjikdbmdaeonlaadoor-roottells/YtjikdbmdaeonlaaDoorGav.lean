/-
  What partsOf returns: an Item's text in pieces; else none. What partsOf returns of a Branch. What Encode and Hash return. Small facts. Whether two lists of texts, and two Items, are alike.
-/
import Derived.Test.YtjikdbmdaeonlaaDoorGap
import Derived.Laws.CopyOwn
import Derived.Test.YtjikdbmdaeonlaaDoorGaj
namespace Go.Proofs.YtjikdbmdaeonlaaDoor.No
open Go.RowKit
set_option maxRecDepth 20000
set_option linter.unusedVariables false

theorem wpList_build1 {P : Program} {w : World} {ops : Array Oper} {rest : List Oper} {o : Oper} {a : Act} {Q : Exit → Act → World → Prop} (hgd : o.guard = none) (t : TypeId) (x0 : Operand) (ho : o.op = .build t #[(0, x0)]) (v0 : Value) (h0 : a.eval x0 = v0) (cs : Array Value) (hb : P.built t [(0, v0)] = some cs)
    (h : wpList P ops Q rest (a.put o.dst (.agg cs)) w) : wpList P ops Q (o :: rest) a w := by
  have hv : ((#[(0, x0)] : Array (Nat × Operand)).map fun (i, x) => (i, a.eval x)).toList = [(0, v0)] := by simp [h0]
  refine wpList_build hgd t _ ho (by rw [hv, hb]; rfl) ?_
  rw [hv, hb]
  exact h
theorem _root_.Go.Proofs.YtjikdbmdaeonlaaDoor.Row.setOther {w : World} {g : Nat} {cs : Array Value} {t : TypeId} (h : Row w g cs t) {a : Addr} (hk : g ≠ a.block) (v : Value) : Row (w.setCell a v) g cs t := h.of (Below.heap_setCell _ _ _ _ hk)
theorem _root_.Go.Proofs.YtjikdbmdaeonlaaDoor.Row.below {w w' : World} {g B : Nat} {cs : Array Value} {t : TypeId} (h : Row w g cs t) (k : Below B w w') (hB : g < B) : Row w' g cs t := h.of (k.block g hB)
theorem i24 : (Tryd.prog.info? 32).map (·.size) = some 6 := by kernel_rfl
theorem i9 : (Tryd.prog.info? 9).map (·.size) = some 1 := by kernel_rfl
theorem pz16 : ptZ.hs.length = 16 := rfl
theorem same44 {P Q : Pt} (h : P.hs.length = 16) (k : Q.hs.length = 16) : (ptC P).size = (ptC Q).size := by rw [ptC_size h, ptC_size k]
theorem splice_pt (P : Pt) (h : P.hs = List.replicate 16 []) (hs : List (List UInt8)) (hl : hs.length ≤ 16) : splice (ptL P) 6 (hs.map fun h => Value.string (bs h)) = ptL { P with hs := pad16 hs } := by
  unfold splice ptL
  rw [h]
  simp only [List.take_succ_cons, List.take_zero, List.length_map, List.cons_append, List.nil_append]
  rw [show 6 + hs.length = hs.length + 1 + 1 + 1 + 1 + 1 + 1 by omega]
  simp only [List.drop_succ_cons]
  unfold pad16
  rw [List.map_append, List.map_replicate, List.map_replicate, List.append_assoc]
  congr 6
  rw [List.drop_append_of_le_length (by simp; omega), List.drop_replicate]

set_option maxHeartbeats 1000000 in
theorem partsOf_no (I : It) (hS : Small I) (hg : goodI I = false) (a : Option Addr) (c : Nat) (w : World) (hT : Tx w a I.hs) :
    Calls Tryd.prog 41 #[itV I a c] w fun e w' => e = .returned (.tuple #[.agg (ptC ptZ), .bool false]) ∧ New w w' := by
  have HGood := fun w h => Good_any I hS a c w h
  rw [hg] at HGood
  obtain ⟨k, p, has, v, m, hs⟩ := I
  have HT : Hid (Tx w a hs) := hT
  clear hT hg hS
  show Calls Tryd.prog 41 #[.agg #[.int .i64 k, .string (bs p), .bool has, .string (bs v), .int .i64 m, .slice a hs.length c]] w _
  replace HGood : ∀ w, Tx w a hs → Calls Tryd.prog 26 #[.agg #[.int .i64 k, .string (bs p), .bool has, .string (bs v), .int .i64 m, .slice a hs.length c]] w _ := HGood
  generalize bs p = sp at *
  generalize bs v = sv at *
  go_enter Tryd.func41, Tryd.ntmps41
  go_wp2_with (first
    | (refine wpList_box_at (by rfl) 1 (by rfl) 32 _ (by rfl) _ (by rfl) ?_; intro W1 R1 N1)
    | (refine wpList_alloc_at (by rfl) 2 (by rfl) 79 (by rfl) _ _ _ info44 ?_; intro W2 R2 N2; have R1a := R1.after N2)
    | refine wpList_load_row (by rfl) 32 _ (by rfl) w.heap.size (by rfl) 32 _ (0, 0) _ R1a Tryd.underlying32 rfl i24 ?_)
  refine (HGood _ (HT.out.after (N1.trans N2))).mono ?_
  rintro _ W3 ⟨rfl, N3⟩
  have R2b := R2.after N3
  have l1 := N1.size
  have N3' := (N1.trans N2).trans N3
  go_wp2_with (first
    | refine wpList_build0 (by rfl) 79 (by rfl) _ built44_none ?_
    | (refine wpList_store_new (by rfl) 79 _ _ (by rfl) W1.heap.size (ptC ptZ) (by rfl) (by rfl) 79 (ptC ptZ) R2b (s44 pz16) rfl (ptC_one _) ?_; intro W4 R4 B4))
  exact bodyPost_ret (results_cell_tmp rfl _ _ W1.heap.size 79 (ptC ptZ) (0, 0) _ (.bool false) rfl rfl R4 Tryd.underlying79 rfl (s44 pz16)) rfl ⟨rfl, B4.new N3' l1⟩

set_option maxHeartbeats 4000000 in
theorem partsOf_path (n : Nat) (hn : n = 1 ∨ n = 2) (p : List UInt8) (has : Bool) (v : List UInt8) (m : Nat) (hs : List (List UInt8)) (hS : Small ⟨(n : Int), p, has, v, (m : Int), hs⟩) (hg : goodI ⟨(n : Int), p, has, v, (m : Int), hs⟩ = true) (hp : goodB p = true) (hl16 : hs.length ≤ 16) (a : Option Addr) (c : Nat) (w : World) (hT : Tx w a hs) (hTab : Tab w) :
    Calls Tryd.prog 41 #[itV ⟨(n : Int), p, has, v, (m : Int), hs⟩ a c] w fun e w' => e = .returned (.tuple #[.agg (ptC ⟨[UInt8.ofNat n], packL p, [], [], if has then [UInt8.ofNat v.length] else [], if has then v else [], pad16 hs, []⟩), .bool true]) ∧ New w w' := by
  have HGood : ∀ W, Tx W a hs → Calls Tryd.prog 26 #[.agg #[.int .i64 (n : Int), .string (bs p), .bool has, .string (bs v), .int .i64 (m : Int), .slice a hs.length c]] W fun e w' => e = .returned (.bool true) ∧ New W w' := fun W h => by
    have := Good_any _ hS a c W h
    rw [hg] at this
    exact this
  have HK := oneByte_any n
  have HP : ∀ W, Tab W → Calls Tryd.prog 63 #[.string (bs p)] W fun e w' => e = .returned (.tuple #[.string (bs (packL p)), .bool true]) ∧ New W w' := fun W h => pack_yes (bs p) hS.p hp W h
  have HS : ∀ W, Calls Tryd.prog 62 #[.int .i64 ((bs v).size : Int)] W fun e w' => e = .returned (.string (bs [UInt8.ofNat v.length])) ∧ New W w' := oneByte_any v.length
  have d3 : ((n : Int) == 3) = false := by rw [int_beq]; exact decide_eq_false (by omega)
  obtain ⟨vl, hvl⟩ : ∃ x, v.length = x := ⟨_, rfl⟩
  have hvs : (bs v).size ≤ 4000 := hS.v
  rw [hvl] at HS ⊢
  have HT : Hid (Tx w a hs) := hT
  have HTab : Hid (Tab w) := hTab
  have h16 : Hid (hs.length ≤ 16) := hl16
  obtain ⟨cs, hcs⟩ : ∃ cs, (hs.map fun h => Value.string (bs h)) = cs := ⟨_, rfl⟩
  have HCS : Hid ((hs.map fun h => Value.string (bs h)) = cs) := hcs
  have HOne : Hid (∀ v ∈ cs, v.oneCell' = true) := by
    show ∀ v ∈ cs, v.oneCell' = true
    rw [← hcs]
    intro v hv
    obtain ⟨h, _, rfl⟩ := List.mem_map.1 hv
    rfl
  have hcl : cs.length = hs.length := by rw [← hcs, List.length_map]
  have HPos : ∀ W, Tx W a hs → 0 < cs.length → ∃ ad, a = some ad ∧ ∀ j v, cs[j]? = some v → W.cell? (ad.add j) = some v := fun W hW h0 => by
    obtain ⟨x, hx, hy⟩ := hW (by omega)
    refine ⟨x, hx, fun j v hj => ?_⟩
    rw [← hcs, List.getElem?_map] at hj
    cases hh : hs[j]? with
    | none => rw [hh] at hj; cases hj
    | some y => rw [hh] at hj; cases hj; exact hy j y hh
  clear hT hTab hcs hl16
  clear hS hg hn hp
  show Calls Tryd.prog 41 #[.agg #[.int .i64 (n : Int), .string (bs p), .bool has, .string (bs v), .int .i64 (m : Int), .slice a hs.length c]] w _
  generalize bs p = sp at *
  obtain ⟨sv, hsv⟩ : ∃ s, bs v = s := ⟨_, rfl⟩
  have HSV : Hid (bs v = sv) := hsv
  rw [hsv] at HGood HS hvs ⊢
  clear hsv
  go_enter Tryd.func41, Tryd.ntmps41
  go_wp2_with (first
    | (refine wpList_box_at (by rfl) 1 (by rfl) 32 _ (by rfl) _ (by rfl) ?_; intro W1 R1 N1)
    | (refine wpList_alloc_at (by rfl) 2 (by rfl) 79 (by rfl) _ _ _ info44 ?_; intro W2 R2 N2; have R1a := R1.after N2)
    | refine wpList_load_row (by rfl) 32 _ (by rfl) w.heap.size (by rfl) 32 _ (0, 0) _ R1a Tryd.underlying32 rfl i24 ?_)
  refine (HGood _ (HT.out.after (N1.trans N2))).mono ?_
  rintro _ W3 ⟨rfl, N3⟩
  have Ra := R1a.after N3
  have Rz := R2.after N3
  have hz := R1.lt
  have N3' := (N1.trans N2).trans N3
  have hz1 := N1.size
  have hz3 := Rz.lt
  generalize W1.heap.size = z at *
  clear R1 R1a R2 N1 N2 N3 HGood
  have c0 : W3.cell? ⟨w.heap.size, 0, none⟩ = some (.int .i64 (n : Int)) := Ra.cell 0
  go_wp2_with fail
  refine (HK _).mono ?_
  rintro _ W4 ⟨rfl, N4⟩
  replace Ra := Ra.after N4
  replace Rz := Rz.after N4
  have N4' := N3'.trans N4
  have ra := Ra.lt
  have rz := Rz.lt
  have l4 := N4'.size
  clear c0 N3' N4 hz3 HK
  go_wp2_with (first
    | refine wpList_build1 (by rfl) 79 _ (by rfl) _ (by rfl) (ptC { ptZ with kind := [UInt8.ofNat n] }) (built44_kind _) ?_
    | (refine wpList_alloc_at (by rfl) 4 (by rfl) 79 (by rfl) _ _ _ info44 ?_; intro W5 R5 N5)
    | (refine wpList_store_new (by rfl) 79 _ _ (by rfl) W4.heap.size (ptC { ptZ with kind := [UInt8.ofNat n] }) (by rfl) (by rfl) 79 (ptC ptZ) R5 (s44 pz16) (same44 pz16 pz16) (ptC_one _) ?_; intro W6 R B6; have Sa : Row W6 w.heap.size _ 32 := (Ra.after N5).but B6 (by omega); have Sz : Row W6 z _ 79 := (Rz.after N5).but B6 (by omega); have N : New w W6 := B6.new (N4'.trans N5) l4; have l5 := N5.size; have rg := R5.lt; have c0 : W6.cell? ⟨w.heap.size, 0, none⟩ = some (.int .i64 (n : Int)) := Sa.cell 0; have c1 : W6.cell? ⟨w.heap.size, 1, none⟩ = some (.string sp) := Sa.cell 1; have c4 : W6.cell? ⟨w.heap.size, 4, none⟩ = some (.int .i64 (m : Int)) := Sa.cell 4))
  have hg1 : w.heap.size < W4.heap.size := ra
  have hg2 : z < W4.heap.size := rz
  generalize W4.heap.size = g at *
  clear Ra Rz N4' R5 N5 B6 l5 ra rz l4
  refine (HP _ (HTab.out.kept N)).mono ?_
  rintro _ W7 ⟨rfl, N7⟩
  replace R := R.after N7
  replace Sa := Sa.after N7
  replace Sz := Sz.after N7
  replace N := N.trans N7
  have c2 : W7.cell? ⟨w.heap.size, 2, none⟩ = some (.bool has) := Sa.cell 2
  have c3 : W7.cell? ⟨w.heap.size, 3, none⟩ = some (.string sv) := Sa.cell 3
  have y1 := R.has 1 (v := .string (bs [])) rfl
  have f1 := R.frozen 1
  have hgne : w.heap.size ≠ g := by omega
  have hgne' : g ≠ w.heap.size := by omega
  clear c0 c1 c4 N7
  cases has
  · go_wp2_with fail
    replace R := R.set 1 (.string (bs (packL p)))
    rw [set_path] at R
    replace Sa := Sa.setOther (a := ⟨g, 1, none⟩) (by simp; omega) (.string (bs (packL p)))
    replace Sz := Sz.setOther (a := ⟨g, 1, none⟩) (by simp; omega) (.string (bs (packL p)))
    replace N := N.setCell (a := ⟨g, 1, none⟩) (by simp; omega) (.string (bs (packL p)))
    clear c2 c3 y1 f1
    generalize W7.setCell ⟨g, 1, none⟩ (.string (bs (packL p))) = W at *
    have c5 : ∀ p : NewW W, p.v.cell? ⟨w.heap.size, 5, none⟩ = some (.slice a hs.length c) := NewW.cell (Sa.cell 5)
    have hne := NewW.ne W
    refine region_first 4 1 W (New.refl W) (by kernel_rfl) (by kernel_rfl) ?_
    simp only [List.take_succ_cons, List.take_zero, List.drop_succ_cons, List.drop_zero]
    repeat (go_big_quiet_step (fail))
    refine wpQuiet_nil ?_
    rintro Wq ⟨⟨_, kq⟩, rfl⟩
    replace R := R.after kq
    replace Sz := Sz.after kq
    have Nq := N.trans kq
    clear c5 hne
    refine wpList_copy_splice (by rfl) (.tmp 47) (.tmp 49) 28 28 (by rfl) 9 Tryd.underlying28 i9 (some ⟨g, 6, none⟩) a 16 16 hs.length c (by rfl) (by rfl) g 6 (ptL { ptZ with kind := [UInt8.ofNat n], path := packL p }) 79 R cs (by rw [hcl]; exact (Nat.min_eq_left h16.out).symm) (fun h => ⟨rfl, HPos _ (HT.out.after Nq) h⟩) (by have := h16.out; rw [ptL_length rfl, hcl]; omega) HOne.out g _ (Below.refl _ _) (Nat.le_refl _) ?_
    intro We HRe hbe
    have Re : Row We g (ptC { ptZ with kind := [UInt8.ofNat n], path := packL p, hs := pad16 hs }) 79 := by
      have h := HRe.out
      rw [← HCS.out, splice_pt _ rfl hs h16.out] at h
      exact h
    have Rz := Sz.below hbe hg2
    have Ne : New w We := Below.trans Nq (hbe.mono (by omega))
    clear HRe R Sz
    go_wp2_with (first
      | refine wpList_load_row (by rfl) 79 _ (by rfl) g (by rfl) 79 _ (0, 0) _ Re Tryd.underlying79 rfl (s44 (pad16_length _ h16.out)) ?_
      | (refine wpList_store_new (by rfl) 79 _ _ (by rfl) z (ptC { ptZ with kind := [UInt8.ofNat n], path := packL p, hs := pad16 hs }) (by rfl) (by rfl) 79 (ptC ptZ) Rz (s44 (pad16_length _ h16.out)) (same44 pz16 (pad16_length _ h16.out)) (ptC_one _) ?_; intro Wf Rf Bf))
    exact bodyPost_ret (results_cell_tmp rfl _ _ z 79 (ptC { ptZ with kind := [UInt8.ofNat n], path := packL p, hs := pad16 hs }) (0, 0) _ (.bool true) rfl rfl Rf Tryd.underlying79 rfl (s44 (pad16_length _ h16.out))) rfl ⟨rfl, Bf.new Ne hz1⟩
  · go_wp2_with fail
    replace R := R.set 1 (.string (bs (packL p)))
    rw [set_path] at R
    replace Sa := Sa.setOther (a := ⟨g, 1, none⟩) (by simp; omega) (.string (bs (packL p)))
    replace Sz := Sz.setOther (a := ⟨g, 1, none⟩) (by simp; omega) (.string (bs (packL p)))
    replace N := N.setCell (a := ⟨g, 1, none⟩) (by simp; omega) (.string (bs (packL p)))
    clear c2 c3 y1 f1
    have c3 : (W7.setCell ⟨g, 1, none⟩ (.string (bs (packL p)))).cell? ⟨w.heap.size, 3, none⟩ = some (.string sv) := Sa.cell 3
    generalize W7.setCell ⟨g, 1, none⟩ (.string (bs (packL p))) = W at *
    refine (HS _).mono ?_
    rintro _ Wv ⟨rfl, Nv⟩
    replace R := R.after Nv
    replace Sa := Sa.after Nv
    replace Sz := Sz.after Nv
    replace N := N.trans Nv
    clear Nv c3
    have c3 : Wv.cell? ⟨w.heap.size, 3, none⟩ = some (.string sv) := Sa.cell 3
    have y4 := R.has 4 (v := .string (bs [])) rfl
    have y5 := R.has 5 (v := .string (bs [])) rfl
    have f4 := R.frozen 4
    have f5 := R.frozen 5
    go_wp2_with fail
    replace R := (R.set 4 (.string (bs [UInt8.ofNat vl]))).set 5 (.string sv)
    rw [set_size, ← HSV.out, set_value, HSV.out] at R
    replace Sa := (Sa.setOther (a := ⟨g, 4, none⟩) (by simp; omega) (.string (bs [UInt8.ofNat vl]))).setOther (a := ⟨g, 5, none⟩) (by simp; omega) (.string sv)
    replace Sz := (Sz.setOther (a := ⟨g, 4, none⟩) (by simp; omega) (.string (bs [UInt8.ofNat vl]))).setOther (a := ⟨g, 5, none⟩) (by simp; omega) (.string sv)
    replace N := (N.setCell (a := ⟨g, 4, none⟩) (by simp; omega) (.string (bs [UInt8.ofNat vl]))).setCell (a := ⟨g, 5, none⟩) (by simp; omega) (.string sv)
    clear c3 y4 y5 f4 f5
    generalize (Wv.setCell ⟨g, 4, none⟩ (.string (bs [UInt8.ofNat vl]))).setCell ⟨g, 5, none⟩ (.string sv) = W at *
    have c5 : ∀ p : NewW W, p.v.cell? ⟨w.heap.size, 5, none⟩ = some (.slice a hs.length c) := NewW.cell (Sa.cell 5)
    have hne := NewW.ne W
    refine region_first 4 1 W (New.refl W) (by kernel_rfl) (by kernel_rfl) ?_
    simp only [List.take_succ_cons, List.take_zero, List.drop_succ_cons, List.drop_zero]
    repeat (go_big_quiet_step (fail))
    refine wpQuiet_nil ?_
    rintro Wq ⟨⟨_, kq⟩, rfl⟩
    replace R := R.after kq
    replace Sz := Sz.after kq
    have Nq := N.trans kq
    clear c5 hne
    refine wpList_copy_splice (by rfl) (.tmp 47) (.tmp 49) 28 28 (by rfl) 9 Tryd.underlying28 i9 (some ⟨g, 6, none⟩) a 16 16 hs.length c (by rfl) (by rfl) g 6 (ptL { ptZ with kind := [UInt8.ofNat n], path := packL p, size := [UInt8.ofNat vl], value := v }) 79 R cs (by rw [hcl]; exact (Nat.min_eq_left h16.out).symm) (fun h => ⟨rfl, HPos _ (HT.out.after Nq) h⟩) (by have := h16.out; rw [ptL_length rfl, hcl]; omega) HOne.out g _ (Below.refl _ _) (Nat.le_refl _) ?_
    intro We HRe hbe
    have Re : Row We g (ptC { ptZ with kind := [UInt8.ofNat n], path := packL p, size := [UInt8.ofNat vl], value := v, hs := pad16 hs }) 79 := by
      have h := HRe.out
      rw [← HCS.out, splice_pt _ rfl hs h16.out] at h
      exact h
    have Rz := Sz.below hbe hg2
    have Ne : New w We := Below.trans Nq (hbe.mono (by omega))
    clear HRe R Sz
    go_wp2_with (first
      | refine wpList_load_row (by rfl) 79 _ (by rfl) g (by rfl) 79 _ (0, 0) _ Re Tryd.underlying79 rfl (s44 (pad16_length _ h16.out)) ?_
      | (refine wpList_store_new (by rfl) 79 _ _ (by rfl) z (ptC { ptZ with kind := [UInt8.ofNat n], path := packL p, size := [UInt8.ofNat vl], value := v, hs := pad16 hs }) (by rfl) (by rfl) 79 (ptC ptZ) Rz (s44 (pad16_length _ h16.out)) (same44 pz16 (pad16_length _ h16.out)) (ptC_one _) ?_; intro Wf Rf Bf))
    exact bodyPost_ret (results_cell_tmp rfl _ _ z 79 (ptC { ptZ with kind := [UInt8.ofNat n], path := packL p, size := [UInt8.ofNat vl], value := v, hs := pad16 hs }) (0, 0) _ (.bool true) rfl rfl Rf Tryd.underlying79 rfl (s44 (pad16_length _ h16.out))) rfl ⟨rfl, Bf.new Ne hz1⟩

end Go.Proofs.YtjikdbmdaeonlaaDoor.No
namespace Go.Proofs.YtjikdbmdaeonlaaDoor.No
open Go.RowKit
set_option maxRecDepth 20000
set_option linter.unusedVariables false

set_option maxHeartbeats 4000000 in
theorem partsOf_mask (n : Nat) (hn : n = 3) (p : List UInt8) (has : Bool) (v : List UInt8) (m : Nat) (hs : List (List UInt8)) (hS : Small ⟨(n : Int), p, has, v, (m : Int), hs⟩) (hg : goodI ⟨(n : Int), p, has, v, (m : Int), hs⟩ = true) (hl16 : hs.length ≤ 16) (a : Option Addr) (c : Nat) (w : World) (hT : Tx w a hs) :
    Calls Tryd.prog 41 #[itV ⟨(n : Int), p, has, v, (m : Int), hs⟩ a c] w fun e w' => e = .returned (.tuple #[.agg (ptC ⟨[UInt8.ofNat n], [], [UInt8.ofNat (m / 256), UInt8.ofNat m], [if has then 1 else 0], if has then [UInt8.ofNat v.length] else [], if has then v else [], pad16 hs, []⟩), .bool true]) ∧ New w w' := by
  have HGood : ∀ W, Tx W a hs → Calls Tryd.prog 26 #[.agg #[.int .i64 (n : Int), .string (bs p), .bool has, .string (bs v), .int .i64 (m : Int), .slice a hs.length c]] W fun e w' => e = .returned (.bool true) ∧ New W w' := fun W h => by
    have := Good_any _ hS a c W h
    rw [hg] at this
    exact this
  have HK := oneByte_any n
  have HS : ∀ W, Calls Tryd.prog 62 #[.int .i64 ((bs v).size : Int)] W fun e w' => e = .returned (.string (bs [UInt8.ofNat v.length])) ∧ New W w' := oneByte_any v.length
  have d3 : ((n : Int) == 3) = true := by rw [int_beq]; exact decide_eq_true (by omega)
  obtain ⟨vl, hvl⟩ : ∃ x, v.length = x := ⟨_, rfl⟩
  obtain ⟨mh, hmh⟩ : ∃ x, m / 256 = x := ⟨_, rfl⟩
  have hdiv : (m : Int) / 256 = (mh : Int) := by omega
  have zh : (bs [UInt8.ofNat mh]).size ≤ 1 := Nat.le_refl _
  have zl : (bs [UInt8.ofNat m]).size ≤ 1 := Nat.le_refl _
  have HMM : Hid (bs [UInt8.ofNat mh] ++ bs [UInt8.ofNat m] = bs [UInt8.ofNat mh, UInt8.ofNat m]) := eq_of_L (by rw [L_append, L_bs, L_bs, L_bs]; rfl)
  have hvs : (bs v).size ≤ 4000 := hS.v
  have hTab : True := trivial
  rw [hvl] at HS ⊢
  rw [hmh]
  have HT : Hid (Tx w a hs) := hT
  have h16 : Hid (hs.length ≤ 16) := hl16
  obtain ⟨cs, hcs⟩ : ∃ cs, (hs.map fun h => Value.string (bs h)) = cs := ⟨_, rfl⟩
  have HCS : Hid ((hs.map fun h => Value.string (bs h)) = cs) := hcs
  have HOne : Hid (∀ v ∈ cs, v.oneCell' = true) := by
    show ∀ v ∈ cs, v.oneCell' = true
    rw [← hcs]
    intro v hv
    obtain ⟨h, _, rfl⟩ := List.mem_map.1 hv
    rfl
  have hcl : cs.length = hs.length := by rw [← hcs, List.length_map]
  have HPos : ∀ W, Tx W a hs → 0 < cs.length → ∃ ad, a = some ad ∧ ∀ j v, cs[j]? = some v → W.cell? (ad.add j) = some v := fun W hW h0 => by
    obtain ⟨x, hx, hy⟩ := hW (by omega)
    refine ⟨x, hx, fun j v hj => ?_⟩
    rw [← hcs, List.getElem?_map] at hj
    cases hh : hs[j]? with
    | none => rw [hh] at hj; cases hj
    | some y => rw [hh] at hj; cases hj; exact hy j y hh
  clear hT hTab hcs hl16
  clear hS hg hn hmh
  show Calls Tryd.prog 41 #[.agg #[.int .i64 (n : Int), .string (bs p), .bool has, .string (bs v), .int .i64 (m : Int), .slice a hs.length c]] w _
  generalize bs p = sp at *
  obtain ⟨sv, hsv⟩ : ∃ s, bs v = s := ⟨_, rfl⟩
  have HSV : Hid (bs v = sv) := hsv
  rw [hsv] at HGood HS hvs ⊢
  clear hsv
  go_enter Tryd.func41, Tryd.ntmps41
  go_wp2_with (first
    | (refine wpList_box_at (by rfl) 1 (by rfl) 32 _ (by rfl) _ (by rfl) ?_; intro W1 R1 N1)
    | (refine wpList_alloc_at (by rfl) 2 (by rfl) 79 (by rfl) _ _ _ info44 ?_; intro W2 R2 N2; have R1a := R1.after N2)
    | refine wpList_load_row (by rfl) 32 _ (by rfl) w.heap.size (by rfl) 32 _ (0, 0) _ R1a Tryd.underlying32 rfl i24 ?_)
  refine (HGood _ (HT.out.after (N1.trans N2))).mono ?_
  rintro _ W3 ⟨rfl, N3⟩
  have Ra := R1a.after N3
  have Rz := R2.after N3
  have hz := R1.lt
  have N3' := (N1.trans N2).trans N3
  have hz1 := N1.size
  have hz3 := Rz.lt
  generalize W1.heap.size = z at *
  clear R1 R1a R2 N1 N2 N3 HGood
  have c0 : W3.cell? ⟨w.heap.size, 0, none⟩ = some (.int .i64 (n : Int)) := Ra.cell 0
  go_wp2_with fail
  refine (HK _).mono ?_
  rintro _ W4 ⟨rfl, N4⟩
  replace Ra := Ra.after N4
  replace Rz := Rz.after N4
  have N4' := N3'.trans N4
  have ra := Ra.lt
  have rz := Rz.lt
  have l4 := N4'.size
  clear c0 N3' N4 hz3 HK
  go_wp2_with (first
    | refine wpList_build1 (by rfl) 79 _ (by rfl) _ (by rfl) (ptC { ptZ with kind := [UInt8.ofNat n] }) (built44_kind _) ?_
    | (refine wpList_alloc_at (by rfl) 4 (by rfl) 79 (by rfl) _ _ _ info44 ?_; intro W5 R5 N5)
    | (refine wpList_store_new (by rfl) 79 _ _ (by rfl) W4.heap.size (ptC { ptZ with kind := [UInt8.ofNat n] }) (by rfl) (by rfl) 79 (ptC ptZ) R5 (s44 pz16) (same44 pz16 pz16) (ptC_one _) ?_; intro W6 R B6; have Sa : Row W6 w.heap.size _ 32 := (Ra.after N5).but B6 (by omega); have Sz : Row W6 z _ 79 := (Rz.after N5).but B6 (by omega); have N : New w W6 := B6.new (N4'.trans N5) l4; have l5 := N5.size; have rg := R5.lt; have c0 : W6.cell? ⟨w.heap.size, 0, none⟩ = some (.int .i64 (n : Int)) := Sa.cell 0; have c1 : W6.cell? ⟨w.heap.size, 1, none⟩ = some (.string sp) := Sa.cell 1; have c4 : W6.cell? ⟨w.heap.size, 4, none⟩ = some (.int .i64 (m : Int)) := Sa.cell 4))
  have hg1 : w.heap.size < W4.heap.size := ra
  have hg2 : z < W4.heap.size := rz
  generalize W4.heap.size = g at *
  clear Ra Rz N4' R5 N5 B6 l5 ra rz l4
  have d4 := NewW.cell c4
  have hne := NewW.ne W6
  refine region_first 9 1 W6 (New.refl W6) (by kernel_rfl) (by kernel_rfl) ?_
  simp only [List.take_succ_cons, List.take_zero, List.drop_succ_cons, List.drop_zero]
  repeat (go_big_quiet_step (first | (go_at_call 62; exact Calls.neww (oneByte_any _ _))))
  refine wpQuiet_nil ?_
  rintro W5 ⟨⟨_, k5⟩, rfl⟩
  replace R := R.after k5
  replace Sa := Sa.after k5
  replace Sz := Sz.after k5
  replace N := N.trans k5
  have c2 : W5.cell? ⟨w.heap.size, 2, none⟩ = some (.bool has) := Sa.cell 2
  have c3 : W5.cell? ⟨w.heap.size, 3, none⟩ = some (.string sv) := Sa.cell 3
  have y2 := R.has 2 (v := .string (bs [])) rfl
  have f2 := R.frozen 2
  have y3 := R.has 3 (v := .string (bs [])) rfl
  have f3 := R.frozen 3
  have hgne : w.heap.size ≠ g := by omega
  have hgne' : g ≠ w.heap.size := by omega
  clear c0 c1 c4 k5 d4 hne
  cases has
  · go_wp2_with fail
    replace R := (R.set 2 (.string (bs [UInt8.ofNat mh] ++ bs [UInt8.ofNat m]))).set 3 (.string ⟨#[0]⟩)
    replace Sa := ((Sa.setOther (a := ⟨g, 2, none⟩) (by simp; omega) (.string (bs [UInt8.ofNat mh] ++ bs [UInt8.ofNat m]))).setOther (a := ⟨g, 3, none⟩) (by simp; omega) (.string ⟨#[0]⟩))
    replace Sz := ((Sz.setOther (a := ⟨g, 2, none⟩) (by simp; omega) (.string (bs [UInt8.ofNat mh] ++ bs [UInt8.ofNat m]))).setOther (a := ⟨g, 3, none⟩) (by simp; omega) (.string ⟨#[0]⟩))
    replace N := (N.setCell (a := ⟨g, 2, none⟩) (by simp; omega) (.string (bs [UInt8.ofNat mh] ++ bs [UInt8.ofNat m]))).setCell (a := ⟨g, 3, none⟩) (by simp; omega) (.string ⟨#[0]⟩)
    clear c2 c3 y2 f2 y3 f3
    generalize ((W5.setCell ⟨g, 2, none⟩ (.string (bs [UInt8.ofNat mh] ++ bs [UInt8.ofNat m]))).setCell ⟨g, 3, none⟩ (.string ⟨#[0]⟩)) = W at *
    rw [HMM.out, set_mask, show (Value.string ⟨#[0]⟩ : Value) = .string (bs [0]) from rfl, set_has] at R
    have c5 : ∀ p : NewW W, p.v.cell? ⟨w.heap.size, 5, none⟩ = some (.slice a hs.length c) := NewW.cell (Sa.cell 5)
    have hne := NewW.ne W
    refine region_first 4 1 W (New.refl W) (by kernel_rfl) (by kernel_rfl) ?_
    simp only [List.take_succ_cons, List.take_zero, List.drop_succ_cons, List.drop_zero]
    repeat (go_big_quiet_step (fail))
    refine wpQuiet_nil ?_
    rintro Wq ⟨⟨_, kq⟩, rfl⟩
    replace R := R.after kq
    replace Sz := Sz.after kq
    have Nq := N.trans kq
    clear c5 hne
    refine wpList_copy_splice (by rfl) (.tmp 47) (.tmp 49) 28 28 (by rfl) 9 Tryd.underlying28 i9 (some ⟨g, 6, none⟩) a 16 16 hs.length c (by rfl) (by rfl) g 6 (ptL { ptZ with kind := [UInt8.ofNat n], mask := [UInt8.ofNat mh, UInt8.ofNat m], has := [0] }) 79 R cs (by rw [hcl]; exact (Nat.min_eq_left h16.out).symm) (fun h => ⟨rfl, HPos _ (HT.out.after Nq) h⟩) (by have := h16.out; rw [ptL_length rfl, hcl]; omega) HOne.out g _ (Below.refl _ _) (Nat.le_refl _) ?_
    intro We HRe hbe
    have Re : Row We g (ptC { ptZ with kind := [UInt8.ofNat n], mask := [UInt8.ofNat mh, UInt8.ofNat m], has := [0], hs := pad16 hs }) 79 := by
      have h := HRe.out
      rw [← HCS.out, splice_pt _ rfl hs h16.out] at h
      exact h
    have Rz := Sz.below hbe hg2
    have Ne : New w We := Below.trans Nq (hbe.mono (by omega))
    clear HRe R Sz
    go_wp2_with (first
      | refine wpList_load_row (by rfl) 79 _ (by rfl) g (by rfl) 79 _ (0, 0) _ Re Tryd.underlying79 rfl (s44 (pad16_length _ h16.out)) ?_
      | (refine wpList_store_new (by rfl) 79 _ _ (by rfl) z (ptC { ptZ with kind := [UInt8.ofNat n], mask := [UInt8.ofNat mh, UInt8.ofNat m], has := [0], hs := pad16 hs }) (by rfl) (by rfl) 79 (ptC ptZ) Rz (s44 (pad16_length _ h16.out)) (same44 pz16 (pad16_length _ h16.out)) (ptC_one _) ?_; intro Wf Rf Bf))
    exact bodyPost_ret (results_cell_tmp rfl _ _ z 79 (ptC { ptZ with kind := [UInt8.ofNat n], mask := [UInt8.ofNat mh, UInt8.ofNat m], has := [0], hs := pad16 hs }) (0, 0) _ (.bool true) rfl rfl Rf Tryd.underlying79 rfl (s44 (pad16_length _ h16.out))) rfl ⟨rfl, Bf.new Ne hz1⟩
  · go_wp2_with fail
    replace R := ((R.set 2 (.string (bs [UInt8.ofNat mh] ++ bs [UInt8.ofNat m]))).set 3 (.string ⟨#[0]⟩)).set 3 (.string ⟨#[1]⟩)
    replace Sa := (((Sa.setOther (a := ⟨g, 2, none⟩) (by simp; omega) (.string (bs [UInt8.ofNat mh] ++ bs [UInt8.ofNat m]))).setOther (a := ⟨g, 3, none⟩) (by simp; omega) (.string ⟨#[0]⟩)).setOther (a := ⟨g, 3, none⟩) (by simp; omega) (.string ⟨#[1]⟩))
    replace Sz := (((Sz.setOther (a := ⟨g, 2, none⟩) (by simp; omega) (.string (bs [UInt8.ofNat mh] ++ bs [UInt8.ofNat m]))).setOther (a := ⟨g, 3, none⟩) (by simp; omega) (.string ⟨#[0]⟩)).setOther (a := ⟨g, 3, none⟩) (by simp; omega) (.string ⟨#[1]⟩))
    replace N := ((N.setCell (a := ⟨g, 2, none⟩) (by simp; omega) (.string (bs [UInt8.ofNat mh] ++ bs [UInt8.ofNat m]))).setCell (a := ⟨g, 3, none⟩) (by simp; omega) (.string ⟨#[0]⟩)).setCell (a := ⟨g, 3, none⟩) (by simp; omega) (.string ⟨#[1]⟩)
    clear c2 c3 y2 f2 y3 f3
    generalize (((W5.setCell ⟨g, 2, none⟩ (.string (bs [UInt8.ofNat mh] ++ bs [UInt8.ofNat m]))).setCell ⟨g, 3, none⟩ (.string ⟨#[0]⟩)).setCell ⟨g, 3, none⟩ (.string ⟨#[1]⟩)) = W at *
    rw [HMM.out, set_mask, show (Value.string ⟨#[0]⟩ : Value) = .string (bs [0]) from rfl, set_has, show (Value.string ⟨#[1]⟩ : Value) = .string (bs [1]) from rfl, set_has] at R
    have c3 : W.cell? ⟨w.heap.size, 3, none⟩ = some (.string sv) := Sa.cell 3
    refine (HS _).mono ?_
    rintro _ Wv ⟨rfl, Nv⟩
    replace R := R.after Nv
    replace Sa := Sa.after Nv
    replace Sz := Sz.after Nv
    replace N := N.trans Nv
    clear Nv c3
    have c3 : Wv.cell? ⟨w.heap.size, 3, none⟩ = some (.string sv) := Sa.cell 3
    have y4 := R.has 4 (v := .string (bs [])) rfl
    have y5 := R.has 5 (v := .string (bs [])) rfl
    have f4 := R.frozen 4
    have f5 := R.frozen 5
    go_wp2_with fail
    replace R := (R.set 4 (.string (bs [UInt8.ofNat vl]))).set 5 (.string sv)
    rw [set_size, ← HSV.out, set_value, HSV.out] at R
    replace Sa := (Sa.setOther (a := ⟨g, 4, none⟩) (by simp; omega) (.string (bs [UInt8.ofNat vl]))).setOther (a := ⟨g, 5, none⟩) (by simp; omega) (.string sv)
    replace Sz := (Sz.setOther (a := ⟨g, 4, none⟩) (by simp; omega) (.string (bs [UInt8.ofNat vl]))).setOther (a := ⟨g, 5, none⟩) (by simp; omega) (.string sv)
    replace N := (N.setCell (a := ⟨g, 4, none⟩) (by simp; omega) (.string (bs [UInt8.ofNat vl]))).setCell (a := ⟨g, 5, none⟩) (by simp; omega) (.string sv)
    clear c3 y4 y5 f4 f5
    generalize (Wv.setCell ⟨g, 4, none⟩ (.string (bs [UInt8.ofNat vl]))).setCell ⟨g, 5, none⟩ (.string sv) = W at *
    have c5 : ∀ p : NewW W, p.v.cell? ⟨w.heap.size, 5, none⟩ = some (.slice a hs.length c) := NewW.cell (Sa.cell 5)
    have hne := NewW.ne W
    refine region_first 4 1 W (New.refl W) (by kernel_rfl) (by kernel_rfl) ?_
    simp only [List.take_succ_cons, List.take_zero, List.drop_succ_cons, List.drop_zero]
    repeat (go_big_quiet_step (fail))
    refine wpQuiet_nil ?_
    rintro Wq ⟨⟨_, kq⟩, rfl⟩
    replace R := R.after kq
    replace Sz := Sz.after kq
    have Nq := N.trans kq
    clear c5 hne
    refine wpList_copy_splice (by rfl) (.tmp 47) (.tmp 49) 28 28 (by rfl) 9 Tryd.underlying28 i9 (some ⟨g, 6, none⟩) a 16 16 hs.length c (by rfl) (by rfl) g 6 (ptL { ptZ with kind := [UInt8.ofNat n], mask := [UInt8.ofNat mh, UInt8.ofNat m], has := [1], size := [UInt8.ofNat vl], value := v }) 79 R cs (by rw [hcl]; exact (Nat.min_eq_left h16.out).symm) (fun h => ⟨rfl, HPos _ (HT.out.after Nq) h⟩) (by have := h16.out; rw [ptL_length rfl, hcl]; omega) HOne.out g _ (Below.refl _ _) (Nat.le_refl _) ?_
    intro We HRe hbe
    have Re : Row We g (ptC { ptZ with kind := [UInt8.ofNat n], mask := [UInt8.ofNat mh, UInt8.ofNat m], has := [1], size := [UInt8.ofNat vl], value := v, hs := pad16 hs }) 79 := by
      have h := HRe.out
      rw [← HCS.out, splice_pt _ rfl hs h16.out] at h
      exact h
    have Rz := Sz.below hbe hg2
    have Ne : New w We := Below.trans Nq (hbe.mono (by omega))
    clear HRe R Sz
    go_wp2_with (first
      | refine wpList_load_row (by rfl) 79 _ (by rfl) g (by rfl) 79 _ (0, 0) _ Re Tryd.underlying79 rfl (s44 (pad16_length _ h16.out)) ?_
      | (refine wpList_store_new (by rfl) 79 _ _ (by rfl) z (ptC { ptZ with kind := [UInt8.ofNat n], mask := [UInt8.ofNat mh, UInt8.ofNat m], has := [1], size := [UInt8.ofNat vl], value := v, hs := pad16 hs }) (by rfl) (by rfl) 79 (ptC ptZ) Rz (s44 (pad16_length _ h16.out)) (same44 pz16 (pad16_length _ h16.out)) (ptC_one _) ?_; intro Wf Rf Bf))
    exact bodyPost_ret (results_cell_tmp rfl _ _ z 79 (ptC { ptZ with kind := [UInt8.ofNat n], mask := [UInt8.ofNat mh, UInt8.ofNat m], has := [1], size := [UInt8.ofNat vl], value := v, hs := pad16 hs }) (0, 0) _ (.bool true) rfl rfl Rf Tryd.underlying79 rfl (s44 (pad16_length _ h16.out))) rfl ⟨rfl, Bf.new Ne hz1⟩

/-- What partsOf returns of an Item that may be. -/
theorem partsOf_yes (I : It) (hS : Small I) (hg : goodI I = true) (a : Option Addr) (c : Nat) (w : World) (hT : Tx w a I.hs) (hTab : Tab w) :
    Calls Tryd.prog 41 #[itV I a c] w fun e w' => e = .returned (.tuple #[.agg (ptC (ptOf I)), .bool true]) ∧ New w w' := by
  have hG := (goodI_iff I).1 hg
  cases hG with
  | leaf p v hp hv => exact partsOf_path 1 (.inl rfl) p true v 0 [] hS hg hp (by decide) a c w hT hTab
  | ext p h hp h0 hh => exact partsOf_path 2 (.inr rfl) p false [] 1 [h] hS hg hp (by simp) a c w hT hTab
  | branch has v m hs hv hv2 hm h2 hl hh => exact partsOf_mask 3 rfl [] has v m hs hS hg (by rw [hl]; exact popN_le m) a c w hT

end Go.Proofs.YtjikdbmdaeonlaaDoor.No
namespace Go.Proofs.YtjikdbmdaeonlaaDoor.No
open Go.RowKit
set_option maxRecDepth 20000
set_option linter.unusedVariables false

/-- The three tables lie as their initialisers lay them. -/
def TT (w : World) : Prop := Tab w ∧ Dg.Tab w
theorem TT.after {w w' : World} (h : TT w) (k : New w w') : TT w' := ⟨h.1.kept k, h.2.kept k⟩

theorem flat32 (hs : List (List UInt8)) (h : ∀ x ∈ hs, x.length = 32) : hs.flatten.length = 32 * hs.length := by
  induction hs with
  | nil => rfl
  | cons x hs ih =>
    rw [List.flatten_cons, List.length_append, h x (by simp), ih (fun y hy => h y (by simp [hy])), List.length_cons]; omega
/-- How long an Item's text is. -/
def lenN (I : It) : Nat := 1 + 32 * I.hs.length + (if I.k = 3 then 3 else 1 + (I.p.length + 1) / 2) + (if I.has then 1 + I.v.length else 0)
theorem enc_len (I : It) (h : goodI I = true) : (encL I).length = lenN I ∧ lenN I ≤ 533 ∧ I.hs.length ≤ 16 := by
  rw [goodI_iff] at h
  cases h with
  | leaf p v hp hv =>
    have h1 := (goodB_parts hp).1
    have e : encL ⟨1, p, true, v, 0, []⟩ = 1 :: (packL p ++ (UInt8.ofNat v.length :: v)) := by
      unfold encL Pt.text ptOf
      simp [pad16]
    rw [e]
    simp [lenN, pack_length]
    omega
  | ext p h hp h0 hh =>
    have h1 := (goodB_parts hp).1
    have e : encL ⟨2, p, false, [], 1, [h]⟩ = 2 :: (packL p ++ h) := by
      unfold encL Pt.text ptOf
      simp [pad16]
    rw [e]
    simp [lenN, pack_length, hh]
    omega
  | branch has v m hs hv hv2 hm h2 hl hh =>
    have hf := flat32 hs hh
    have hp := popN_le m
    cases has with
    | true =>
      have e : encL ⟨3, [], true, v, (m : Int), hs⟩ = 3 :: UInt8.ofNat (m / 256) :: UInt8.ofNat m :: 1 :: UInt8.ofNat v.length :: (v ++ hs.flatten) := by
        unfold encL Pt.text ptOf
        simp [pad16_flat]
      rw [e]
      simp [lenN, hf]
      omega
    | false =>
      obtain rfl := hv2 rfl
      have e : encL ⟨3, [], false, [], (m : Int), hs⟩ = 3 :: UInt8.ofNat (m / 256) :: UInt8.ofNat m :: 0 :: hs.flatten := by
        unfold encL Pt.text ptOf
        simp [pad16_flat]
      rw [e]
      simp [lenN, hf]
      omega
theorem ptOf16 (I : It) (h : goodI I = true) : (ptOf I).hs.length = 16 := pad16_length _ (enc_len I h).2.2

set_option maxHeartbeats 1000000 in
theorem encode_no (I : It) (hS : Small I) (hg : goodI I = false) (a : Option Addr) (c : Nat) (w : World) (hT : Tx w a I.hs) :
    Calls Tryd.prog 24 #[itV I a c] w fun e w' => e = .returned (.tuple #[.string ⟨#[]⟩, .bool false]) ∧ New w w' := by
  have HC := fun W h => partsOf_no I hS hg a c W h
  obtain ⟨k, p, has, v, m, hs⟩ := I
  have HT : Hid (Tx w a hs) := hT
  clear hT hg hS
  show Calls Tryd.prog 24 #[.agg #[.int .i64 k, .string (bs p), .bool has, .string (bs v), .int .i64 m, .slice a hs.length c]] w _
  replace HC : ∀ w, Tx w a hs → Calls Tryd.prog 41 #[.agg #[.int .i64 k, .string (bs p), .bool has, .string (bs v), .int .i64 m, .slice a hs.length c]] w _ := HC
  generalize bs p = sp at *
  generalize bs v = sv at *
  go_enter Tryd.func24, Tryd.ntmps24
  go_wp2_with (first
    | (refine wpList_box_at (by rfl) 1 (by rfl) 32 _ (by rfl) _ (by rfl) ?_; intro W1 R1 N1)
    | refine wpList_load_row (by rfl) 32 _ (by rfl) w.heap.size (by rfl) 32 _ (0, 0) _ R1 Tryd.underlying32 rfl i24 ?_)
  refine (HC _ (HT.out.after N1)).mono ?_
  rintro _ W2 ⟨rfl, N2⟩
  have N2' := N1.trans N2
  have l2 := N2'.size
  go_wp2_with (first
    | (refine wpList_alloc_at (by rfl) 4 (by rfl) 79 (by rfl) _ _ _ info44 ?_; intro W3 R3 N3)
    | (refine wpList_store_new (by rfl) 79 _ _ (by rfl) W2.heap.size (ptC ptZ) (by rfl) (by rfl) 79 (ptC ptZ) R3 (s44 pz16) rfl (ptC_one _) ?_; intro W4 R4 B4))
  go_ret2
  exact ⟨rfl, B4.new (N2'.trans N3) l2⟩

set_option maxHeartbeats 1000000 in
theorem encode_yes (I : It) (hS : Small I) (hg : goodI I = true) (a : Option Addr) (c : Nat) (w : World) (hT : Tx w a I.hs) (hTab : Tab w) :
    Calls Tryd.prog 24 #[itV I a c] w fun e w' => e = .returned (.tuple #[.string (bs (encL I)), .bool true]) ∧ New w w' := by
  have HC := fun W h h2 => partsOf_yes I hS hg a c W h h2
  have h16 := ptOf16 I hg
  have hen := enc_len I hg
  have HX := fun W => text_any (ptOf I) h16 (by show (encL I).length ≤ 4000; omega) W
  have HE : Hid ((ptOf I).text = encL I) := rfl
  rw [HE.out] at HX
  generalize encL I = t at *
  have s16 := s44 h16
  have sm := same44 pz16 h16
  have on := ptC_one (ptOf I)
  generalize ptOf I = Q at *
  obtain ⟨k, p, has, v, m, hs⟩ := I
  have HT : Hid (Tx w a hs) := hT
  have HB : Hid (Tab w) := hTab
  clear hT hg hS hTab hen HE
  show Calls Tryd.prog 24 #[.agg #[.int .i64 k, .string (bs p), .bool has, .string (bs v), .int .i64 m, .slice a hs.length c]] w _
  replace HC : ∀ w, Tx w a hs → Tab w → Calls Tryd.prog 41 #[.agg #[.int .i64 k, .string (bs p), .bool has, .string (bs v), .int .i64 m, .slice a hs.length c]] w _ := HC
  generalize bs p = sp at *
  generalize bs v = sv at *
  generalize bs t = st at *
  go_enter Tryd.func24, Tryd.ntmps24
  go_wp2_with (first
    | (refine wpList_box_at (by rfl) 1 (by rfl) 32 _ (by rfl) _ (by rfl) ?_; intro W1 R1 N1)
    | refine wpList_load_row (by rfl) 32 _ (by rfl) w.heap.size (by rfl) 32 _ (0, 0) _ R1 Tryd.underlying32 rfl i24 ?_)
  refine (HC _ (HT.out.after N1) (HB.out.kept N1)).mono ?_
  rintro _ W2 ⟨rfl, N2⟩
  have N2' := N1.trans N2
  have l2 := N2'.size
  go_wp2_with (first
    | (refine wpList_alloc_at (by rfl) 4 (by rfl) 79 (by rfl) _ _ _ info44 ?_; intro W3 R3 N3)
    | (refine wpList_store_new (by rfl) 79 _ _ (by rfl) W2.heap.size (ptC Q) (by rfl) (by rfl) 79 (ptC ptZ) R3 s16 sm on ?_; intro W4 R4 B4)
    | refine wpList_load_row (by rfl) 79 _ (by rfl) W2.heap.size (by rfl) 79 _ (0, 0) _ R4 Tryd.underlying79 rfl s16 ?_)
  refine (HX _).mono ?_
  rintro _ W5 ⟨rfl, N5⟩
  go_wp2_with fail
  go_ret2
  exact ⟨rfl, (B4.new (N2'.trans N3) l2).trans N5⟩

/-- What Encode and Hash tell. -/
def encB (I : It) : List UInt8 := if goodI I then encL I else []
theorem encode_any (I : It) (hS : Small I) (a : Option Addr) (c : Nat) (w : World) (hT : Tx w a I.hs) (hTab : Tab w) :
    Calls Tryd.prog 24 #[itV I a c] w fun e w' => e = .returned (.tuple #[.string (bs (encB I)), .bool (goodI I)]) ∧ New w w' := by
  unfold encB
  cases hg : goodI I
  · exact encode_no I hS hg a c w hT
  · exact encode_yes I hS hg a c w hT hTab

theorem dg_of (l : List UInt8) (h : l.length ≤ 4000) (w : World) (hT : Dg.Tab w) : Calls Tryd.prog 27 #[.string (bs l)] w fun e w' => e = .returned (.string (bs (Dg.ofL l))) ∧ New w w' := Dg.of_any (bs l) h w hT
def hashB (I : It) : List UInt8 := if goodI I then Dg.ofL (encL I) else []
set_option maxHeartbeats 1000000 in
theorem hash_any (I : It) (hS : Small I) (a : Option Addr) (c : Nat) (w : World) (hT : Tx w a I.hs) (hTab : TT w) :
    Calls Tryd.prog 25 #[itV I a c] w fun e w' => e = .returned (.tuple #[.string (bs (hashB I)), .bool (goodI I)]) ∧ New w w' := by
  have HC := fun W h h2 => encode_any I hS a c W h h2
  have HD : goodI I = true → ∀ W, Dg.Tab W → Calls Tryd.prog 27 #[.string (bs (encL I))] W fun e w' => e = .returned (.string (bs (Dg.ofL (encL I)))) ∧ New W w' := fun hg W h => dg_of _ (by have := enc_len I hg; omega) W h
  have e1 : encB I = if goodI I then encL I else [] := rfl
  unfold hashB
  rw [e1] at HC
  generalize encL I = t at *
  generalize goodI I = b at *
  obtain ⟨k, p, has, v, m, hs⟩ := I
  have HT : Hid (Tx w a hs) := hT
  have HB : Hid (TT w) := hTab
  clear hT hS hTab e1
  show Calls Tryd.prog 25 #[.agg #[.int .i64 k, .string (bs p), .bool has, .string (bs v), .int .i64 m, .slice a hs.length c]] w _
  replace HC : ∀ w, Tx w a hs → Tab w → Calls Tryd.prog 24 #[.agg #[.int .i64 k, .string (bs p), .bool has, .string (bs v), .int .i64 m, .slice a hs.length c]] w _ := HC
  generalize bs p = sp at *
  generalize bs v = sv at *
  cases b
  · go_enter Tryd.func25, Tryd.ntmps25
    go_wp2_with (first
      | (refine wpList_box_at (by rfl) 1 (by rfl) 32 _ (by rfl) _ (by rfl) ?_; intro W1 R1 N1)
      | refine wpList_load_row (by rfl) 32 _ (by rfl) w.heap.size (by rfl) 32 _ (0, 0) _ R1 Tryd.underlying32 rfl i24 ?_)
    refine (HC _ (HT.out.after N1) (HB.out.after N1).1).mono ?_
    rintro _ W2 ⟨rfl, N2⟩
    go_wp2_with fail
    go_ret2
    exact ⟨rfl, N1.trans N2⟩
  · have HD' := HD rfl
    go_enter Tryd.func25, Tryd.ntmps25
    go_wp2_with (first
      | (refine wpList_box_at (by rfl) 1 (by rfl) 32 _ (by rfl) _ (by rfl) ?_; intro W1 R1 N1)
      | refine wpList_load_row (by rfl) 32 _ (by rfl) w.heap.size (by rfl) 32 _ (0, 0) _ R1 Tryd.underlying32 rfl i24 ?_)
    refine (HC _ (HT.out.after N1) (HB.out.after N1).1).mono ?_
    rintro _ W2 ⟨rfl, N2⟩
    go_wp2_with fail
    refine (HD' _ (HB.out.after (N1.trans N2)).2).mono ?_
    rintro _ W3 ⟨rfl, N3⟩
    go_wp2_with fail
    go_ret2
    exact ⟨rfl, (N1.trans N2).trans N3⟩

end Go.Proofs.YtjikdbmdaeonlaaDoor.No
namespace Go.Proofs.YtjikdbmdaeonlaaDoor.No
open Go.RowKit
set_option maxRecDepth 20000
set_option linter.unusedVariables false

def itZ : Array Value := #[.int .i64 0, .string ⟨#[]⟩, .bool false, .string ⟨#[]⟩, .int .i64 0, .slice none 0 0]
theorem info9 : (Tryd.prog.info? 9).map (fun i => (i.zero, i.size, i.bytes)) = some (some (.string ⟨#[]⟩), 1, 16) := by kernel_rfl
theorem owns_tx {w : World} {B : Nat} {v : Value} {hs : List (List UInt8)} {n : Nat} (hn : hs.length = n) (h : w.ownsRow B 9 1 v n (hs.map fun h => Value.string (bs h))) : ∃ a c, v = .slice a hs.length c ∧ Tx w a hs ∧ ∀ x, a = some x → B ≤ x.block := by
  subst hn
  rcases h.2 with ⟨rfl, h0⟩ | ⟨g, cap, cur, rfl, hB, _⟩
  · exact ⟨none, 0, by rw [h0], fun h => by omega, fun x hx => by cases hx⟩
  · refine ⟨some ⟨g, 0, none⟩, cap, rfl, fun _ => ⟨_, rfl, fun i y hy => ?_⟩, fun x hx => by cases hx; exact hB⟩
    exact h.cells (g := g) rfl i _ (by rw [List.getElem?_map, hy]; rfl)
theorem info24 : (Tryd.prog.info? 32).map (fun i => (i.zero, i.size, i.bytes)) = some (some (.agg #[.int .i64 0, .string ⟨#[]⟩, .bool false, .string ⟨#[]⟩, .int .i64 0, .slice none 0 0]), 6, 80) := by kernel_rfl
theorem beq_bs (a b : List UInt8) : ((bs a).toList == (bs b).toList) = (a == b) := by rw [toList_L, toList_L, L_bs, L_bs]
theorem itC_one (I : It) (a : Option Addr) (c : Nat) : (itC I a c).all (·.oneCell') = true := by simp [itC, Value.oneCell']
end Go.Proofs.YtjikdbmdaeonlaaDoor.No
namespace Go.Proofs.YtjikdbmdaeonlaaDoor.No
open Go.RowKit
set_option maxRecDepth 20000
set_option linter.unusedVariables false

set_option maxHeartbeats 1000000 in
theorem texts_any (hs js : List (List UInt8)) (a b : Option Addr) (c d : Nat) (hl : hs.length ≤ 4611686018427387904) (w : World) (hT : Tx w a hs) (hU : Tx w b js) :
    Calls Tryd.prog 15 #[.slice a hs.length c, .slice b js.length d] w fun e w' => e = .returned (.bool (hs == js)) ∧ New w w' := by
  have HT : Hid (Tx w a hs) := hT
  have HU : Hid (Tx w b js) := hU
  clear hT hU
  by_cases he : hs.length = js.length
  · have hd : ((hs.length : Int) != (js.length : Int)) = false := by rw [bne_eq_false_iff_eq]; omega
    go_enter Tryd.func15, Tryd.ntmps15
    go_wp2_with fail
    go_loopw [5] (fun i wr => ∃ k : Nat, k ≤ hs.length ∧ i = .int .i64 (k : Int) ∧ (∀ j, j < k → hs[j]? = js[j]?) ∧ New w wr) (fun i _ => hs.length - (intOf i).toNat)
    case atStart => exact ⟨0, by omega, rfl, fun j hj => absurd hj (by omega), New.refl w⟩
    case round =>
      obtain ⟨k, hk, rfl, hall, N⟩ := hrel
      have HA : Hid (∀ j, j < k → hs[j]? = js[j]?) := hall
      clear hall
      by_cases hlt : k < hs.length
      · have hlt' : (k : Int) < (hs.length : Int) := by omega
        have hlt2 : (k : Int) < (js.length : Int) := by omega
        obtain ⟨x, rfl, hx⟩ := (HT.out.after N) (by omega)
        obtain ⟨y, rfl, hy⟩ := (HU.out.after N) (by omega)
        have hc1 := hx k hs[k] (List.getElem?_eq_getElem hlt)
        have hc2 := hy k js[k] (List.getElem?_eq_getElem (by omega))
        have d1 : ∀ p : NewW wr, p.v.cell? (x.add k) = some (.string (bs hs[k])) := fun p => (p.h.cell (World.block_lt_of_cell? wr _ hc1)).trans hc1
        have d2 : ∀ p : NewW wr, p.v.cell? (y.add k) = some (.string (bs js[k])) := fun p => (p.h.cell (World.block_lt_of_cell? wr _ hc2)).trans hc2
        have hne := NewW.ne wr
        have hq : ((bs hs[k]).toList == (bs js[k]).toList) = (hs[k] == js[k]) := beq_bs _ _
        have hq2 : ((bs hs[k]).toList != (bs js[k]).toList) = !(hs[k] == js[k]) := by rw [← hq]; rfl
        clear hx hy hc1 hc2
        by_cases heq : hs[k] = js[k]
        · have HE : Hid (hs[k]? = js[k]?) := by show _ = _; rw [List.getElem?_eq_getElem hlt, List.getElem?_eq_getElem (by omega), heq]
          have hb : (hs[k] == js[k]) = true := by rw [beq_iff_eq]; exact heq
          rw [hb] at hq hq2
          clear heq hb
          generalize bs hs[k] = s1 at *
          generalize bs js[k] = s2 at *
          go_wp2_with fail
          refine region_new wr (New.refl wr) (by kernel_rfl) (by kernel_rfl) ?_
          repeat (go_big_quiet_step (fail))
          refine wpQuiet_nil ?_
          rintro w5 ⟨⟨_, k5⟩, rfl⟩
          go_wp2_with fail
          exact ⟨⟨k + 1, by omega, by go_num, fun j hj => by
            by_cases e : j = k
            · subst e; exact HE.out
            · exact HA.out j (by omega), N.trans k5⟩, by simp [intOf]; omega⟩
        · have hb : (hs[k] == js[k]) = false := by rw [beq_eq_false_iff_ne]; exact heq
          have HF : Hid ((hs == js) = false) := by
            show _ = _
            rw [beq_eq_false_iff_ne]
            intro e
            exact heq (by subst e; rfl)
          rw [hb] at hq hq2
          clear heq hb
          generalize bs hs[k] = s1 at *
          generalize bs js[k] = s2 at *
          go_wp2_with fail
          refine region_new wr (New.refl wr) (by kernel_rfl) (by kernel_rfl) ?_
          repeat (go_big_quiet_step (fail))
          refine wpQuiet_nil ?_
          rintro w5 ⟨⟨_, k5⟩, rfl⟩
          go_wp2_with fail
          go_ret
          exact ⟨ret_bool HF.out.symm, N.trans k5⟩
      · obtain rfl : k = hs.length := by omega
        have HF : Hid ((hs == js) = true) := by
          show _ = _
          rw [beq_iff_eq]
          apply List.ext_getElem?
          intro j
          by_cases hj : j < hs.length
          · exact HA.out j hj
          · rw [List.getElem?_eq_none (by omega), List.getElem?_eq_none (by omega)]
        go_wp2_with fail
        go_ret
        exact ⟨ret_bool HF.out.symm, N⟩
  · have hd : ((hs.length : Int) != (js.length : Int)) = true := by rw [bne_iff_ne]; omega
    have HF : Hid ((hs == js) = false) := by
      show _ = _
      rw [beq_eq_false_iff_ne]
      intro e
      exact he (by rw [e])
    go_enter Tryd.func15, Tryd.ntmps15
    go_wp2_with fail
    go_ret
    exact ⟨ret_bool HF.out.symm, New.refl w⟩

def eqIt (I J : It) : Bool := decide (I.k = J.k) && (I.p == J.p && (I.has == J.has && (I.v == J.v && (decide (I.m = J.m) && I.hs == J.hs))))
theorem eqIt_iff (I J : It) : eqIt I J = true ↔ I = J := by
  obtain ⟨a, b, c, d, e, f⟩ := I
  obtain ⟨a', b', c', d', e', f'⟩ := J
  simp only [eqIt, Bool.and_eq_true, beq_iff_eq, It.mk.injEq, decide_eq_true_eq]

set_option maxHeartbeats 2000000 in
theorem same_any (I J : It) (a b : Option Addr) (c d : Nat) (hl : I.hs.length ≤ 4611686018427387904) (w : World) (hT : Tx w a I.hs) (hU : Tx w b J.hs) :
    Calls Tryd.prog 16 #[itV I a c, itV J b d] w fun e w' => e = .returned (.bool (eqIt I J)) ∧ New w w' := by
  have HX := fun W h k => texts_any I.hs J.hs a b c d hl W h k
  obtain ⟨k, p, has, v, m, hs⟩ := I
  obtain ⟨k', p', has', v', m', js⟩ := J
  have HT : Hid (Tx w a hs) := hT
  have HU : Hid (Tx w b js) := hU
  obtain ⟨b1, hb1⟩ : ∃ x, decide (k = k') = x := ⟨_, rfl⟩
  obtain ⟨b2, hb2⟩ : ∃ x, (p == p') = x := ⟨_, rfl⟩
  obtain ⟨b3, hb3⟩ : ∃ x, (has == has') = x := ⟨_, rfl⟩
  obtain ⟨b4, hb4⟩ : ∃ x, (v == v') = x := ⟨_, rfl⟩
  obtain ⟨b5, hb5⟩ : ∃ x, decide (m = m') = x := ⟨_, rfl⟩
  have HL : Hid (eqIt ⟨k, p, has, v, m, hs⟩ ⟨k', p', has', v', m', js⟩ = (b1 && (b2 && (b3 && (b4 && (b5 && hs == js)))))) := by show _ = _; unfold eqIt; rw [hb1, hb2, hb3, hb4, hb5]
  rw [HL.out]
  have e1 : (k == k') = b1 := by rw [← hb1]; exact int_beq _ _
  have e2 : ((bs p).toList == (bs p').toList) = b2 := by rw [← hb2]; exact beq_bs _ _
  have e4 : ((bs v).toList == (bs v').toList) = b4 := by rw [← hb4]; exact beq_bs _ _
  have e5 : (m == m') = b5 := by rw [← hb5]; exact int_beq _ _
  have N0 : New w ((w.alloc (.cells #[.int .i64 k, .string (bs p), .bool has, .string (bs v), .int .i64 m, .slice a hs.length c] 32)).alloc (.cells #[.int .i64 k', .string (bs p'), .bool has', .string (bs v'), .int .i64 m', .slice b js.length d] 32)) := ((New.refl w).alloc _).alloc _
  clear HL hb1 hb2 hb4 hb5 hT hU hl
  show Calls Tryd.prog 16 #[.agg #[.int .i64 k, .string (bs p), .bool has, .string (bs v), .int .i64 m, .slice a hs.length c], .agg #[.int .i64 k', .string (bs p'), .bool has', .string (bs v'), .int .i64 m', .slice b js.length d]] w _
  replace HX : ∀ W, Tx W a hs → Tx W b js → Calls Tryd.prog 15 #[.slice a hs.length c, .slice b js.length d] W fun e w' => e = .returned (.bool (hs == js)) ∧ New W w' := HX
  generalize (hs == js) = b6 at *
  generalize bs p = sp at *
  generalize bs v = sv at *
  generalize bs p' = sp' at *
  generalize bs v' = sv' at *
  have hx : (b1 && (b2 && (b3 && (b4 && b5)))) = false ∨ (b1 = true ∧ b2 = true ∧ b3 = true ∧ b4 = true ∧ b5 = true) := by
    cases b1 <;> cases b2 <;> cases b3 <;> cases b4 <;> cases b5 <;> simp
  rcases hx with hf | ⟨rfl, rfl, rfl, rfl, rfl⟩
  · have HR : Hid ((b1 && (b2 && (b3 && (b4 && (b5 && b6))))) = false) := by
      show _ = _
      cases b1 <;> cases b2 <;> cases b3 <;> cases b4 <;> cases b5 <;> simp_all
    rw [HR.out]
    clear HR HX
    cases b1
    · clear hf
      go_enter Tryd.func16, Tryd.ntmps16
      go_wp2_with fail
      go_ret
      exact ⟨rfl, N0⟩
    · cases b2
      · clear hf
        go_enter Tryd.func16, Tryd.ntmps16
        go_wp2_with fail
        go_ret
        exact ⟨rfl, N0⟩
      · cases b3
        · clear hf
          go_enter Tryd.func16, Tryd.ntmps16
          go_wp2_with fail
          go_ret
          exact ⟨rfl, N0⟩
        · cases b4
          · clear hf
            go_enter Tryd.func16, Tryd.ntmps16
            go_wp2_with fail
            go_ret
            exact ⟨rfl, N0⟩
          · cases b5
            · clear hf
              go_enter Tryd.func16, Tryd.ntmps16
              go_wp2_with fail
              go_ret
              exact ⟨rfl, N0⟩
            · cases hf
  · go_enter Tryd.func16, Tryd.ntmps16
    go_wp2_with fail
    refine (HX _ (HT.out.after N0) (HU.out.after N0)).mono ?_
    rintro e w1 ⟨rfl, g1⟩
    cases b6
    all_goals
      go_wp2_with fail
      go_ret
      exact ⟨rfl, N0.trans g1⟩

end Go.Proofs.YtjikdbmdaeonlaaDoor.No
