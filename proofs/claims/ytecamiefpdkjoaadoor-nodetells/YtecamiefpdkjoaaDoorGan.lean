/-
  What cutValue and partsIn return: a text in pieces, as its bytes tell them.
-/
import Derived.Test.YtecamiefpdkjoaaDoorGam
namespace Go.Proofs.YtecamiefpdkjoaaDoor
open Go.RowKit
set_option maxRecDepth 20000
set_option linter.unusedVariables false

/-- Of what there was just this block may have changed. -/
structure Upd (g : Nat) (w w' : World) : Prop where
  os : w'.os = w.os
  tape : w'.tape = w.tape
  output : w'.output = w.output
  size : w.heap.size ≤ w'.heap.size
  block : ∀ k, k < w.heap.size → k ≠ g → w'.heap[k]? = w.heap[k]?
theorem Upd.of_new {g : Nat} {w w' : World} (h : New w w') : Upd g w w' := ⟨h.os, h.tape, h.output, h.size, fun k hk _ => h.block k hk⟩
theorem Upd.trans {g : Nat} {a b c : World} (h : Upd g a b) (k : Upd g b c) : Upd g a c :=
  ⟨k.os.trans h.os, k.tape.trans h.tape, k.output.trans h.output, Nat.le_trans h.size k.size, fun i hi hn => (k.block i (Nat.lt_of_lt_of_le hi h.size) hn).trans (h.block i hi hn)⟩
theorem Upd.setCell {g : Nat} (w : World) (i : Nat) (v : Value) : Upd g w (w.setCell ⟨g, i, none⟩ v) := ⟨rfl, rfl, rfl, by simp [World.setCell], fun k _ hn => Below.heap_setCell _ _ _ _ hn⟩
theorem Upd.new {g : Nat} {w0 w w' : World} (h : Upd g w w') (k : New w0 w) (hg : w0.heap.size ≤ g) : New w0 w' :=
  ⟨h.os.trans k.os, h.tape.trans k.tape, h.output.trans k.output, Nat.le_trans k.size h.size, fun i hi => (h.block i (Nat.lt_of_lt_of_le hi k.size) (by omega)).trans (k.block i hi)⟩
theorem Row.upd {w w' : World} {g b : Nat} {cs : Array Value} {t : TypeId} (h : Row w b cs t) (k : Upd g w w') (hb : b ≠ g) : Row w' b cs t := h.of (k.block b h.lt hb)

theorem bs_len (l : List UInt8) : (bs l).size = l.length := rfl
theorem numN_le (l : List UInt8) (h : l.length ≤ 2) : numN l < 65536 := by
  have h1 := numN_lt l l.length (Nat.le_refl _)
  rw [List.take_length] at h1
  have h2 : 256 ^ l.length ≤ 256 ^ 2 := Nat.pow_le_pow_right (by decide) h
  omega
theorem numN_le1 (l : List UInt8) (h : l.length ≤ 1) : numN l < 256 := by
  have h1 := numN_lt l l.length (Nat.le_refl _)
  rw [List.take_length] at h1
  have h2 : 256 ^ l.length ≤ 256 ^ 1 := Nat.pow_le_pow_right (by decide) h
  omega
theorem cut_bs (l : List UInt8) (n : Nat) (w : World) : Calls Tryd.prog 40 #[.string (bs l), .int .i64 (n : Int)] w fun e w' => e = .returned (.tuple #[.string (bs (l.take n)), .string (bs (l.drop n))]) ∧ New w w' := cut_any (bs l) n w

set_option maxHeartbeats 1000000 in
theorem cutValue_any (l : List UInt8) (g : Nat) (P : Pt) (w : World) (R : Row w g (ptC P) 44) :
    Calls Tryd.prog 43 #[.pointer (some ⟨g, 0, none⟩), .string (bs l)] w fun e w' => e = .returned (.string (bs ((l.drop 1).drop (numN (l.take 1))))) ∧
      Row w' g (ptC { P with size := l.take 1, value := (l.drop 1).take (numN (l.take 1)) }) 44 ∧ Upd g w w' := by
  have H1 : ∀ W, Calls Tryd.prog 40 #[.string (bs l), .int .i64 1] W fun e w' => e = .returned (.tuple #[.string (bs (l.take 1)), .string (bs (l.drop 1))]) ∧ New W w' := cut_bs l 1
  have H2 := number_any (l.take 1) (by rw [List.length_take]; omega)
  have H3 := cut_bs (l.drop 1) (numN (l.take 1))
  generalize numN (l.take 1) = n at *
  generalize l.take 1 = k1 at *
  generalize l.drop 1 = r1 at *
  generalize r1.take n = v1 at *
  generalize r1.drop n = r2 at *
  go_enter Tryd.func43, Tryd.ntmps43
  go_wp2_with fail
  refine (H1 _).mono ?_
  rintro _ W1 ⟨rfl, N1⟩
  have R1 := R.after N1
  have y4 := R1.has 4 (v := .string (bs P.size)) rfl
  have f4 := R1.frozen 4
  go_wp2_with fail
  refine (H2 _).mono ?_
  rintro _ W2 ⟨rfl, hW2⟩
  have R2 := R1.set 4 (.string (bs k1))
  rw [set_size] at R2
  have U2 := (Upd.of_new (g := g) N1).trans (Upd.setCell W1 4 (.string (bs k1)))
  rw [← hW2] at R2 U2
  clear R1 y4 f4 N1 hW2 R
  go_wp2_with fail
  refine (H3 _).mono ?_
  rintro _ W3 ⟨rfl, N3⟩
  have R3 := R2.after N3
  have U3 := U2.trans (Upd.of_new (g := g) N3)
  have y5 := R3.has 5 (v := .string (bs P.value)) rfl
  have f5 := R3.frozen 5
  go_wp2_with fail
  go_ret
  have R4 := R3.set 5 (.string (bs v1))
  rw [set_value] at R4
  exact ⟨rfl, R4, U3.trans (Upd.setCell W3 5 (.string (bs v1)))⟩

theorem pad16_set (hs : List (List UInt8)) (k : Nat) (hk : hs.length = k) (h : k < 16) (x : List UInt8) : (pad16 hs).set k x = pad16 (hs ++ [x]) := by
  unfold pad16
  rw [List.set_append_right _ _ (by omega), hk, Nat.sub_self, show 16 - k = (15 - k) + 1 by omega, List.replicate_succ, List.set_cons_zero, List.length_append, List.length_singleton, hk, List.append_assoc, show 16 - (k + 1) = 15 - k by omega]
  rfl

set_option maxHeartbeats 4000000 in
theorem in_leaf (l : List UInt8) (hl : l.length ≤ 4000) (hk : numN (l.take 1) = 1) (w : World) :
    Calls Tryd.prog 23 #[.string (bs l)] w fun e w' => e = .returned (.agg (ptC (leafP l))) ∧ New w w' := by
  have H1 : ∀ W, Calls Tryd.prog 40 #[.string (bs l), .int .i64 1] W fun e w' => e = .returned (.tuple #[.string (bs (l.take 1)), .string (bs (l.drop 1))]) ∧ New W w' := cut_bs l 1
  have H2 := number_any (l.take 1) (by rw [List.length_take]; omega)
  have hr : (l.drop 1).length ≤ 4000 := by rw [List.length_drop]; omega
  have H3 := fun W => packSize_any (bs (l.drop 1)) hr W
  have H4 := cut_bs (l.drop 1) (pkN (l.drop 1))
  have H5 := cutValue_any ((l.drop 1).drop (pkN (l.drop 1)))
  rw [L_bs] at H3
  rw [hk] at H2
  obtain ⟨T, hT⟩ : ∃ T, leafP l = T := ⟨_, rfl⟩
  have HTT : Hid (leafP l = T) := hT
  rw [hT]
  unfold leafP at HTT
  clear hT
  have d1 : (((1 : Nat) : Int) == 1) = true := rfl
  generalize pkN (l.drop 1) = z1 at *
  generalize l.take 1 = k1 at *
  generalize l.drop 1 = r1 at *
  generalize r1.take z1 = p1 at *
  generalize r1.drop z1 = r2 at *
  clear hk hr hl
  go_enter Tryd.func23, Tryd.ntmps23
  go_wp2_with (first
    | (refine wpList_alloc_at (by rfl) 2 (by rfl) 44 (by rfl) _ _ _ info44 ?_; intro W1 R1 N1)
    | (refine wpList_alloc_at (by rfl) 3 (by rfl) 44 (by rfl) _ _ _ info44 ?_; intro W2 R2 N2))
  refine (H1 _).mono ?_
  rintro _ W3 ⟨rfl, N3⟩
  have Rz := (R1.after N2).after N3
  have R := R2.after N3
  have N := (N1.trans N2).trans N3
  have hz : w.heap.size ≤ w.heap.size := Nat.le_refl _
  have hzg : w.heap.size < W1.heap.size := R1.lt
  have hg : w.heap.size ≤ W1.heap.size := by omega
  obtain ⟨z, hzz⟩ : ∃ z, w.heap.size = z := ⟨_, rfl⟩
  rw [hzz] at Rz hzg hg
  have hz : w.heap.size ≤ z := by omega
  rw [hzz] 
  have HZ : Hid (w.heap.size = z) := hzz
  clear hzz
  generalize W1.heap.size = g at *
  clear R1 R2 N1 N2 N3
  have hg : w.heap.size ≤ g := by omega
  have y0 := R.has 0 (v := .string (bs [])) rfl
  have f0 := R.frozen 0
  go_wp2_with fail
  refine (H2 _).mono ?_
  rintro _ W4 ⟨rfl, hW4⟩
  replace R := R.set 0 (.string (bs k1))
  rw [set_kind] at R
  replace Rz := Rz.setOther (a := ⟨g, 0, none⟩) (by simp; omega) (.string (bs k1))
  replace N := N.setCell (a := ⟨g, 0, none⟩) (by simp; omega) (.string (bs k1))
  rw [← hW4] at R Rz N
  clear y0 f0 hW4
  generalize W4 = W at *
  go_wp2_with fail
  refine (H3 _).mono ?_
  rintro _ W5 ⟨rfl, N5⟩
  go_wp2_with fail
  refine (H4 _).mono ?_
  rintro _ W6 ⟨rfl, N6⟩
  replace R := (R.after N5).after N6
  replace Rz := (Rz.after N5).after N6
  replace N := (N.trans N5).trans N6
  clear N5 N6
  have y1 := R.has 1 (v := .string (bs [])) rfl
  have f1 := R.frozen 1
  go_wp2_with fail
  replace R := R.set 1 (.string (bs p1))
  rw [set_path] at R
  replace Rz := Rz.setOther (a := ⟨g, 1, none⟩) (by simp; omega) (.string (bs p1))
  replace N := N.setCell (a := ⟨g, 1, none⟩) (by simp; omega) (.string (bs p1))
  clear y1 f1
  generalize W6.setCell ⟨g, 1, none⟩ (.string (bs p1)) = W7 at *
  refine (H5 g _ _ R).mono ?_
  rintro _ W8 ⟨rfl, R8, U8⟩
  replace Rz := Rz.upd U8 (by omega)
  replace N := U8.new N hg
  generalize numN (r2.take 1) = n at *
  generalize r2.take 1 = s1 at *
  generalize r2.drop 1 = r3 at *
  generalize r3.take n = v1 at *
  generalize r3.drop n = r4 at *
  clear R U8
  have R : Row W8 g (ptC { ptZ with kind := k1, path := p1, size := s1, value := v1 }) 44 := R8
  clear R8
  generalize W8 = W at *
  have yr : W.cell? ⟨g, 22, none⟩ = some (.string (bs [])) := (R.cell 22).trans (get_rest _ pz16)
  have fr := R.frozen 22
  have hzg' : g ≠ z := by omega
  go_wp2_with (first
    | refine wpList_load_row (by rfl) 44 _ (by rfl) g (by rfl) 44 (ptC { ({ ptZ with kind := k1, path := p1, size := s1, value := v1 } : Pt) with rest := r4 }) (0, 0) _ (by have h := R.set 22 (.string (bs (r4))); rw [set_rest ({ ptZ with kind := k1, path := p1, size := s1, value := v1 } : Pt) pz16] at h; exact h) Tryd.underlying44 rfl (s44 (P := { ({ ptZ with kind := k1, path := p1, size := s1, value := v1 } : Pt) with rest := r4 }) pz16) ?_
    | (refine wpList_store_new (by rfl) 44 _ _ (by rfl) z (ptC { ({ ptZ with kind := k1, path := p1, size := s1, value := v1 } : Pt) with rest := r4 }) (by rfl) (by rfl) 44 (ptC ptZ) (Rz.setOther (by simp; omega) _) (s44 (P := { ({ ptZ with kind := k1, path := p1, size := s1, value := v1 } : Pt) with rest := r4 }) pz16) (same44 (Q := { ({ ptZ with kind := k1, path := p1, size := s1, value := v1 } : Pt) with rest := r4 }) pz16 pz16) (ptC_one _) ?_; intro Wf Rf Bf))
  exact bodyPost_ret (results_cell_row rfl _ _ z 44 (ptC { ({ ptZ with kind := k1, path := p1, size := s1, value := v1 } : Pt) with rest := r4 }) (0, 0) _ rfl Rf Tryd.underlying44 rfl (s44 (P := { ({ ptZ with kind := k1, path := p1, size := s1, value := v1 } : Pt) with rest := r4 }) pz16)) rfl ⟨by rw [← HTT.out]; rfl, Bf.new (N.setCell (a := ⟨g, 22, none⟩) (by simp; omega) _) hz⟩

set_option maxHeartbeats 4000000 in
theorem in_ext (l : List UInt8) (hl : l.length ≤ 4000) (hk : numN (l.take 1) = 2) (w : World) :
    Calls Tryd.prog 23 #[.string (bs l)] w fun e w' => e = .returned (.agg (ptC (extP l))) ∧ New w w' := by
  have H1 : ∀ W, Calls Tryd.prog 40 #[.string (bs l), .int .i64 1] W fun e w' => e = .returned (.tuple #[.string (bs (l.take 1)), .string (bs (l.drop 1))]) ∧ New W w' := cut_bs l 1
  have H2 := number_any (l.take 1) (by rw [List.length_take]; omega)
  have hr : (l.drop 1).length ≤ 4000 := by rw [List.length_drop]; omega
  have H3 := fun W => packSize_any (bs (l.drop 1)) hr W
  have H4 := cut_bs (l.drop 1) (pkN (l.drop 1))
  have H5 : ∀ W, Calls Tryd.prog 40 #[.string (bs ((l.drop 1).drop (pkN (l.drop 1)))), .int .i64 32] W fun e w' => e = .returned (.tuple #[.string (bs (((l.drop 1).drop (pkN (l.drop 1))).take 32)), .string (bs (((l.drop 1).drop (pkN (l.drop 1))).drop 32))]) ∧ New W w' := cut_bs _ 32
  rw [L_bs] at H3
  rw [hk] at H2
  obtain ⟨T, hT⟩ : ∃ T, extP l = T := ⟨_, rfl⟩
  have HTT : Hid (extP l = T) := hT
  rw [hT]
  unfold extP at HTT
  clear hT
  have d1 : (((2 : Nat) : Int) == 1) = false := rfl
  have d2 : (((2 : Nat) : Int) == 2) = true := rfl
  generalize pkN (l.drop 1) = z1 at *
  generalize l.take 1 = k1 at *
  generalize l.drop 1 = r1 at *
  generalize r1.take z1 = p1 at *
  generalize r1.drop z1 = r2 at *
  generalize r2.take 32 = h1 at *
  generalize r2.drop 32 = r3 at *
  clear hk hr hl
  go_enter Tryd.func23, Tryd.ntmps23
  go_wp2_with (first
    | (refine wpList_alloc_at (by rfl) 2 (by rfl) 44 (by rfl) _ _ _ info44 ?_; intro W1 R1 N1)
    | (refine wpList_alloc_at (by rfl) 3 (by rfl) 44 (by rfl) _ _ _ info44 ?_; intro W2 R2 N2))
  refine (H1 _).mono ?_
  rintro _ W3 ⟨rfl, N3⟩
  have Rz := (R1.after N2).after N3
  have R := R2.after N3
  have N := (N1.trans N2).trans N3
  have hz : w.heap.size ≤ w.heap.size := Nat.le_refl _
  have hzg : w.heap.size < W1.heap.size := R1.lt
  have hg : w.heap.size ≤ W1.heap.size := by omega
  obtain ⟨z, hzz⟩ : ∃ z, w.heap.size = z := ⟨_, rfl⟩
  rw [hzz] at Rz hzg hg
  have hz : w.heap.size ≤ z := by omega
  rw [hzz] 
  have HZ : Hid (w.heap.size = z) := hzz
  clear hzz
  generalize W1.heap.size = g at *
  clear R1 R2 N1 N2 N3
  have hg : w.heap.size ≤ g := by omega
  have y0 := R.has 0 (v := .string (bs [])) rfl
  have f0 := R.frozen 0
  go_wp2_with fail
  refine (H2 _).mono ?_
  rintro _ W4 ⟨rfl, hW4⟩
  replace R := R.set 0 (.string (bs k1))
  rw [set_kind] at R
  replace Rz := Rz.setOther (a := ⟨g, 0, none⟩) (by simp; omega) (.string (bs k1))
  replace N := N.setCell (a := ⟨g, 0, none⟩) (by simp; omega) (.string (bs k1))
  rw [← hW4] at R Rz N
  clear y0 f0 hW4
  generalize W4 = W at *
  go_wp2_with fail
  refine (H3 _).mono ?_
  rintro _ W5 ⟨rfl, N5⟩
  go_wp2_with fail
  refine (H4 _).mono ?_
  rintro _ W6 ⟨rfl, N6⟩
  replace R := (R.after N5).after N6
  replace Rz := (Rz.after N5).after N6
  replace N := (N.trans N5).trans N6
  clear N5 N6
  have y1 := R.has 1 (v := .string (bs [])) rfl
  have f1 := R.frozen 1
  go_wp2_with fail
  replace R := R.set 1 (.string (bs p1))
  rw [set_path] at R
  replace Rz := Rz.setOther (a := ⟨g, 1, none⟩) (by simp; omega) (.string (bs p1))
  replace N := N.setCell (a := ⟨g, 1, none⟩) (by simp; omega) (.string (bs p1))
  clear y1 f1
  generalize W6.setCell ⟨g, 1, none⟩ (.string (bs p1)) = W7 at *
  refine (H5 _).mono ?_
  rintro _ W8 ⟨rfl, N8⟩
  replace R := R.after N8
  replace Rz := Rz.after N8
  replace N := N.trans N8
  have y6 := R.has 6 (v := .string (bs [])) rfl
  have f6 := R.frozen 6
  replace R := R.set 6 (.string (bs h1))
  rw [set_hash { ptZ with kind := k1, path := p1 } 0 (by show 0 < 16; decide)] at R
  replace Rz := Rz.setOther (a := ⟨g, 6, none⟩) (by simp; omega) (.string (bs h1))
  replace N := N.setCell (a := ⟨g, 6, none⟩) (by simp; omega) (.string (bs h1))
  have yr : (W8.setCell ⟨g, 6, none⟩ (.string (bs h1))).cell? ⟨g, 22, none⟩ = some (.string (bs [])) := (R.cell 22).trans (get_rest { ptZ with kind := k1, path := p1, hs := ptZ.hs.set 0 h1 } rfl)
  go_upto_region 20 with fail
  generalize W8.setCell ⟨g, 6, none⟩ (.string (bs h1)) = W at *
  have yr : W.cell? ⟨g, 22, none⟩ = some (.string (bs [])) := (R.cell 22).trans (get_rest _ rfl)
  have fr := R.frozen 22
  have hzg' : g ≠ z := by omega
  go_wp2_with (first
    | refine wpList_load_row (by rfl) 44 _ (by rfl) g (by rfl) 44 (ptC { ({ ptZ with kind := k1, path := p1, hs := ptZ.hs.set 0 h1 } : Pt) with rest := r3 }) (0, 0) _ (by have h := R.set 22 (.string (bs (r3))); rw [set_rest ({ ptZ with kind := k1, path := p1, hs := ptZ.hs.set 0 h1 } : Pt) rfl] at h; exact h) Tryd.underlying44 rfl (s44 (P := { ({ ptZ with kind := k1, path := p1, hs := ptZ.hs.set 0 h1 } : Pt) with rest := r3 }) rfl) ?_
    | (refine wpList_store_new (by rfl) 44 _ _ (by rfl) z (ptC { ({ ptZ with kind := k1, path := p1, hs := ptZ.hs.set 0 h1 } : Pt) with rest := r3 }) (by rfl) (by rfl) 44 (ptC ptZ) (Rz.setOther (by simp; omega) _) (s44 (P := { ({ ptZ with kind := k1, path := p1, hs := ptZ.hs.set 0 h1 } : Pt) with rest := r3 }) rfl) (same44 (Q := { ({ ptZ with kind := k1, path := p1, hs := ptZ.hs.set 0 h1 } : Pt) with rest := r3 }) pz16 rfl) (ptC_one _) ?_; intro Wf Rf Bf))
  exact bodyPost_ret (results_cell_row rfl _ _ z 44 (ptC { ({ ptZ with kind := k1, path := p1, hs := ptZ.hs.set 0 h1 } : Pt) with rest := r3 }) (0, 0) _ rfl Rf Tryd.underlying44 rfl (s44 (P := { ({ ptZ with kind := k1, path := p1, hs := ptZ.hs.set 0 h1 } : Pt) with rest := r3 }) rfl)) rfl ⟨by rw [← HTT.out]; rfl, Bf.new (N.setCell (a := ⟨g, 22, none⟩) (by simp; omega) _) hz⟩

set_option maxHeartbeats 4000000 in
theorem in_none (l : List UInt8) (n : Nat) (hk : numN (l.take 1) = n) (h1 : n ≠ 1) (h2 : n ≠ 2) (h3 : n ≠ 3) (w : World) :
    Calls Tryd.prog 23 #[.string (bs l)] w fun e w' => e = .returned (.agg (ptC ⟨l.take 1, [], [], [], [], [], List.replicate 16 [], l.drop 1⟩)) ∧ New w w' := by
  have H1 : ∀ W, Calls Tryd.prog 40 #[.string (bs l), .int .i64 1] W fun e w' => e = .returned (.tuple #[.string (bs (l.take 1)), .string (bs (l.drop 1))]) ∧ New W w' := cut_bs l 1
  have H2 := number_any (l.take 1) (by rw [List.length_take]; omega)
  rw [hk] at H2
  obtain ⟨T, hT⟩ : ∃ T : Pt, ⟨l.take 1, [], [], [], [], [], List.replicate 16 [], l.drop 1⟩ = T := ⟨_, rfl⟩
  have HTT : Hid ((⟨l.take 1, [], [], [], [], [], List.replicate 16 [], l.drop 1⟩ : Pt) = T) := hT
  rw [hT]
  clear hT
  have d1 : ((n : Int) == 1) = false := by rw [int_beq]; exact decide_eq_false (by omega)
  have d2 : ((n : Int) == 2) = false := by rw [int_beq]; exact decide_eq_false (by omega)
  have d3 : ((n : Int) == 3) = false := by rw [int_beq]; exact decide_eq_false (by omega)
  generalize l.take 1 = k1 at *
  generalize l.drop 1 = r1 at *
  clear hk h1 h2 h3
  go_enter Tryd.func23, Tryd.ntmps23
  go_wp2_with (first
    | (refine wpList_alloc_at (by rfl) 2 (by rfl) 44 (by rfl) _ _ _ info44 ?_; intro W1 R1 N1)
    | (refine wpList_alloc_at (by rfl) 3 (by rfl) 44 (by rfl) _ _ _ info44 ?_; intro W2 R2 N2))
  refine (H1 _).mono ?_
  rintro _ W3 ⟨rfl, N3⟩
  have Rz := (R1.after N2).after N3
  have R := R2.after N3
  have N := (N1.trans N2).trans N3
  have hz : w.heap.size ≤ w.heap.size := Nat.le_refl _
  have hzg : w.heap.size < W1.heap.size := R1.lt
  have hg : w.heap.size ≤ W1.heap.size := by omega
  obtain ⟨z, hzz⟩ : ∃ z, w.heap.size = z := ⟨_, rfl⟩
  rw [hzz] at Rz hzg hg
  have hz : w.heap.size ≤ z := by omega
  rw [hzz] 
  have HZ : Hid (w.heap.size = z) := hzz
  clear hzz
  generalize W1.heap.size = g at *
  clear R1 R2 N1 N2 N3
  have hg : w.heap.size ≤ g := by omega
  have y0 := R.has 0 (v := .string (bs [])) rfl
  have f0 := R.frozen 0
  go_wp2_with fail
  refine (H2 _).mono ?_
  rintro _ W4 ⟨rfl, hW4⟩
  replace R := R.set 0 (.string (bs k1))
  rw [set_kind] at R
  replace Rz := Rz.setOther (a := ⟨g, 0, none⟩) (by simp; omega) (.string (bs k1))
  replace N := N.setCell (a := ⟨g, 0, none⟩) (by simp; omega) (.string (bs k1))
  rw [← hW4] at R Rz N
  clear y0 f0 hW4
  generalize W4 = W at *
  have yr : W.cell? ⟨g, 22, none⟩ = some (.string (bs [])) := (R.cell 22).trans (get_rest _ pz16)
  have fr := R.frozen 22
  have hzg' : g ≠ z := by omega
  go_wp2_with (first
    | refine wpList_load_row (by rfl) 44 _ (by rfl) g (by rfl) 44 (ptC { ({ ptZ with kind := k1 } : Pt) with rest := r1 }) (0, 0) _ (by have h := R.set 22 (.string (bs (r1))); rw [set_rest ({ ptZ with kind := k1 } : Pt) pz16] at h; exact h) Tryd.underlying44 rfl (s44 (P := { ({ ptZ with kind := k1 } : Pt) with rest := r1 }) pz16) ?_
    | (refine wpList_store_new (by rfl) 44 _ _ (by rfl) z (ptC { ({ ptZ with kind := k1 } : Pt) with rest := r1 }) (by rfl) (by rfl) 44 (ptC ptZ) (Rz.setOther (by simp; omega) _) (s44 (P := { ({ ptZ with kind := k1 } : Pt) with rest := r1 }) pz16) (same44 (Q := { ({ ptZ with kind := k1 } : Pt) with rest := r1 }) pz16 pz16) (ptC_one _) ?_; intro Wf Rf Bf))
  exact bodyPost_ret (results_cell_row rfl _ _ z 44 (ptC { ({ ptZ with kind := k1 } : Pt) with rest := r1 }) (0, 0) _ rfl Rf Tryd.underlying44 rfl (s44 (P := { ({ ptZ with kind := k1 } : Pt) with rest := r1 }) pz16)) rfl ⟨by rw [← HTT.out]; rfl, Bf.new (N.setCell (a := ⟨g, 22, none⟩) (by simp; omega) _) hz⟩

set_option maxHeartbeats 8000000 in
theorem in_branch (l : List UInt8) (hl : l.length ≤ 4000) (hk : numN (l.take 1) = 3) (w : World) :
    Calls Tryd.prog 23 #[.string (bs l)] w fun e w' => e = .returned (.agg (ptC (brP l))) ∧ New w w' := by
  have H1 : ∀ W, Calls Tryd.prog 40 #[.string (bs l), .int .i64 1] W fun e w' => e = .returned (.tuple #[.string (bs (l.take 1)), .string (bs (l.drop 1))]) ∧ New W w' := cut_bs l 1
  have H2 := number_any (l.take 1) (by rw [List.length_take]; omega)
  have H3 : ∀ W, Calls Tryd.prog 40 #[.string (bs (l.drop 1)), .int .i64 2] W fun e w' => e = .returned (.tuple #[.string (bs ((l.drop 1).take 2)), .string (bs ((l.drop 1).drop 2))]) ∧ New W w' := cut_bs _ 2
  have H4 : ∀ W, Calls Tryd.prog 40 #[.string (bs ((l.drop 1).drop 2)), .int .i64 1] W fun e w' => e = .returned (.tuple #[.string (bs (((l.drop 1).drop 2).take 1)), .string (bs (((l.drop 1).drop 2).drop 1))]) ∧ New W w' := cut_bs _ 1
  have H5 := cutValue_any (((l.drop 1).drop 2).drop 1)
  have hm2 : ((l.drop 1).take 2).length ≤ 2 := by rw [List.length_take]; omega
  have HN := number_any ((l.drop 1).take 2) hm2
  have HCh := children_any (numN ((l.drop 1).take 2)) (numN_le _ hm2)
  have HCut : ∀ (x : List UInt8) W, Calls Tryd.prog 40 #[.string (bs x), .int .i64 32] W fun e w' => e = .returned (.tuple #[.string (bs (x.take 32)), .string (bs (x.drop 32))]) ∧ New W w' := fun x => cut_bs x 32
  have hn16 := popN_le (numN ((l.drop 1).take 2))
  rw [hk] at H2
  obtain ⟨T, hT⟩ : ∃ T, brP l = T := ⟨_, rfl⟩
  have HTT : Hid (brP l = T) := hT
  rw [hT]
  unfold brP brV at HTT
  dsimp only at HTT
  clear hT
  have d1 : (((3 : Nat) : Int) == 1) = false := rfl
  have d2 : (((3 : Nat) : Int) == 2) = false := rfl
  have d3 : (((3 : Nat) : Int) == 3) = true := rfl
  generalize popN (numN ((l.drop 1).take 2)) = n at *
  generalize numN ((l.drop 1).take 2) = q at *
  generalize l.take 1 = k1 at *
  generalize l.drop 1 = r1 at *
  generalize r1.take 2 = m1 at *
  generalize r1.drop 2 = r2 at *
  generalize r2.take 1 = h1 at *
  generalize r2.drop 1 = r3 at *
  clear hk hl hm2
  go_enter Tryd.func23, Tryd.ntmps23
  go_wp2_with (first
    | (refine wpList_alloc_at (by rfl) 2 (by rfl) 44 (by rfl) _ _ _ info44 ?_; intro W1 R1 N1)
    | (refine wpList_alloc_at (by rfl) 3 (by rfl) 44 (by rfl) _ _ _ info44 ?_; intro W2 R2 N2))
  refine (H1 _).mono ?_
  rintro _ W3 ⟨rfl, N3⟩
  have Rz := (R1.after N2).after N3
  have R := R2.after N3
  have N := (N1.trans N2).trans N3
  have hz : w.heap.size ≤ w.heap.size := Nat.le_refl _
  have hzg : w.heap.size < W1.heap.size := R1.lt
  have hg : w.heap.size ≤ W1.heap.size := by omega
  obtain ⟨z, hzz⟩ : ∃ z, w.heap.size = z := ⟨_, rfl⟩
  rw [hzz] at Rz hzg hg
  have hz : w.heap.size ≤ z := by omega
  rw [hzz] 
  have HZ : Hid (w.heap.size = z) := hzz
  clear hzz
  generalize W1.heap.size = g at *
  clear R1 R2 N1 N2 N3
  have hg : w.heap.size ≤ g := by omega
  have y0 := R.has 0 (v := .string (bs [])) rfl
  have f0 := R.frozen 0
  go_wp2_with fail
  refine (H2 _).mono ?_
  rintro _ W4 ⟨rfl, hW4⟩
  replace R := R.set 0 (.string (bs k1))
  rw [set_kind] at R
  replace Rz := Rz.setOther (a := ⟨g, 0, none⟩) (by simp; omega) (.string (bs k1))
  replace N := N.setCell (a := ⟨g, 0, none⟩) (by simp; omega) (.string (bs k1))
  rw [← hW4] at R Rz N
  clear y0 f0 hW4
  generalize W4 = W at *
  go_wp2_with fail
  refine (H3 _).mono ?_
  rintro _ W5 ⟨rfl, N5⟩
  replace R := R.after N5
  replace Rz := Rz.after N5
  replace N := N.trans N5
  clear N5
  have y2 := R.has 2 (v := .string (bs [])) rfl
  have f2 := R.frozen 2
  go_wp2_with fail
  replace R := R.set 2 (.string (bs m1))
  rw [set_mask] at R
  replace Rz := Rz.setOther (a := ⟨g, 2, none⟩) (by simp; omega) (.string (bs m1))
  replace N := N.setCell (a := ⟨g, 2, none⟩) (by simp; omega) (.string (bs m1))
  clear y2 f2
  generalize W5.setCell ⟨g, 2, none⟩ (.string (bs m1)) = W6 at *
  refine (H4 _).mono ?_
  rintro _ W7 ⟨rfl, N7⟩
  replace R := R.after N7
  replace Rz := Rz.after N7
  replace N := N.trans N7
  clear N7
  have y3 := R.has 3 (v := .string (bs [])) rfl
  have f3 := R.frozen 3
  have c2 := R.has 2 (v := .string (bs m1)) rfl
  have e3 : (bs h1).toList = h1 := by rw [toList_L, L_bs]
  by_cases hh : h1 = [1]
  · have d4 : (h1 == [1]) = true := by rw [beq_iff_eq]; exact hh
    have HH : Hid (h1 = [1]) := hh
    clear hh
    go_wp2_with fail
    replace R := R.set 3 (.string (bs h1))
    rw [set_has] at R
    replace Rz := Rz.setOther (a := ⟨g, 3, none⟩) (by simp; omega) (.string (bs h1))
    replace N := N.setCell (a := ⟨g, 3, none⟩) (by simp; omega) (.string (bs h1))
    clear y3 f3 c2
    generalize W7.setCell ⟨g, 3, none⟩ (.string (bs h1)) = W8 at *
    refine (H5 g _ _ R).mono ?_
    rintro _ W9 ⟨rfl, R9, U9⟩
    replace Rz := Rz.upd U9 (by omega)
    replace N := U9.new N hg
    replace HTT : Hid (_ = T) := (if_pos HH.out).symm.trans HTT.out
    generalize numN (r3.take 1) = x at *
    generalize r3.take 1 = s1 at *
    generalize r3.drop 1 = r4 at *
    generalize r4.take x = v1 at *
    generalize r4.drop x = r5 at *
    clear R U9
    have R : Row W9 g (ptC { ptZ with kind := k1, mask := m1, has := h1, size := s1, value := v1 }) 44 := R9
    clear R9
    have c2 := R.has 2 (v := .string (bs m1)) rfl
    go_wp2_with fail
    refine (HN _).mono ?_
    rintro _ W8 ⟨rfl, hW8⟩
    rw [← hW8] at R Rz N
    clear hW8
    go_wp2_with fail
    refine (HCh _).mono ?_
    rintro _ W9 ⟨rfl, hW9⟩
    rw [← hW9] at R Rz N
    clear hW9
    go_wp2_with fail
    go_loopw [0, 66] (fun t i wr => ∃ k : Nat, k ≤ n ∧ i = .int .i64 (k : Int) ∧ t = .string (bs (r5.drop (32 * k))) ∧ Row wr g (ptC { ({ ptZ with kind := k1, mask := m1, has := h1, size := s1, value := v1 } : Pt) with hs := pad16 (cutH r5 k) }) 44 ∧ Row wr z (ptC ptZ) 44 ∧ New w wr) (fun _ i _ => n - (intOf i).toNat)
    case atStart => exact ⟨0, by omega, rfl, rfl, R, Rz, N⟩
    case round =>
      clear R Rz N
      obtain ⟨k, hk, rfl, rfl, R, Rz, N⟩ := hrel
      have hcl := cutH_length r5 k
      have h16 : (pad16 (cutH r5 k)).length = 16 := pad16_length _ (by omega)
      have HS : Hid (∀ x, k < 16 → (pad16 (cutH r5 k)).set k x = pad16 (cutH r5 k ++ [x])) := fun x hx => pad16_set _ k hcl hx x
      have HS2 : Hid (cutH r5 k ++ [(r5.drop (32 * k)).take 32] = cutH r5 (k + 1)) := (cutH_succ r5 k).symm
      have HD : Hid ((r5.drop (32 * k)).drop 32 = r5.drop (32 * (k + 1))) := by show _ = _; rw [List.drop_drop]; rfl
      by_cases hlt : k < n
      · have hlt' : (k : Int) < (n : Int) := by omega
        have hk16 : (k : Int) < 16 := by omega
        have hk16' : k < 16 := by omega
        have HC := HCut (r5.drop (32 * k))
        generalize r5.drop (32 * k) = rk at *
        go_wp2_with fail
        refine (HC _).mono ?_
        rintro _ Wa ⟨rfl, Na⟩
        replace R := R.after Na
        replace Rz := Rz.after Na
        replace N := N.trans Na
        obtain ⟨u, hu⟩ : ∃ u, (pad16 (cutH r5 k))[k]? = some u := ⟨_, List.getElem?_eq_getElem (by omega)⟩
        have yk := R.has (6 + k) (ptC_hs (P := { ({ ptZ with kind := k1, mask := m1, has := h1, size := s1, value := v1 } : Pt) with hs := pad16 (cutH r5 k) }) hu)
        have fk := R.frozen (6 + k)
        replace R := R.set (6 + k) (.string (bs (rk.take 32)))
        rw [set_hash { ({ ptZ with kind := k1, mask := m1, has := h1, size := s1, value := v1 } : Pt) with hs := pad16 (cutH r5 k) } k (by show k < (pad16 (cutH r5 k)).length; omega)] at R
        have HR : Hid (Row (Wa.setCell ⟨g, 6 + k, none⟩ (.string (bs (rk.take 32)))) g (ptC { ({ ptZ with kind := k1, mask := m1, has := h1, size := s1, value := v1 } : Pt) with hs := pad16 (cutH r5 (k + 1)) }) 44) := by
          show Row _ _ _ _
          rw [← HS2.out, ← HS.out _ hk16']
          exact R
        clear R hu hcl h16
        go_wp2_with fail
        exact ⟨⟨k + 1, by omega, by go_num, by rw [HD.out], HR.out, Rz.setOther (a := ⟨g, 6 + k, none⟩) (by simp; omega) _, N.setCell (a := ⟨g, 6 + k, none⟩) (by simp; omega) _⟩, by simp [intOf]; omega⟩
      · obtain rfl : k = n := by omega
        clear HS HS2 HD
        generalize r5.drop (32 * k) = r9 at *
        generalize pad16 (cutH r5 k) = hh at *
        generalize wr = W at *
        have yr : W.cell? ⟨g, 22, none⟩ = some (.string (bs [])) := (R.cell 22).trans (get_rest _ h16)
        have fr := R.frozen 22
        have hzg' : g ≠ z := by omega
        go_wp2_with (first
          | refine wpList_load_row (by rfl) 44 _ (by rfl) g (by rfl) 44 (ptC { ({ ptZ with kind := k1, mask := m1, has := h1, size := s1, value := v1, hs := hh } : Pt) with rest := r9 }) (0, 0) _ (by have h := R.set 22 (.string (bs (r9))); rw [set_rest ({ ptZ with kind := k1, mask := m1, has := h1, size := s1, value := v1, hs := hh } : Pt) h16] at h; exact h) Tryd.underlying44 rfl (s44 (P := { ({ ptZ with kind := k1, mask := m1, has := h1, size := s1, value := v1, hs := hh } : Pt) with rest := r9 }) h16) ?_
          | (refine wpList_store_new (by rfl) 44 _ _ (by rfl) z (ptC { ({ ptZ with kind := k1, mask := m1, has := h1, size := s1, value := v1, hs := hh } : Pt) with rest := r9 }) (by rfl) (by rfl) 44 (ptC ptZ) (Rz.setOther (by simp; omega) _) (s44 (P := { ({ ptZ with kind := k1, mask := m1, has := h1, size := s1, value := v1, hs := hh } : Pt) with rest := r9 }) h16) (same44 (Q := { ({ ptZ with kind := k1, mask := m1, has := h1, size := s1, value := v1, hs := hh } : Pt) with rest := r9 }) pz16 h16) (ptC_one _) ?_; intro Wf Rf Bf))
        exact bodyPost_ret (results_cell_row rfl _ _ z 44 (ptC { ({ ptZ with kind := k1, mask := m1, has := h1, size := s1, value := v1, hs := hh } : Pt) with rest := r9 }) (0, 0) _ rfl Rf Tryd.underlying44 rfl (s44 (P := { ({ ptZ with kind := k1, mask := m1, has := h1, size := s1, value := v1, hs := hh } : Pt) with rest := r9 }) h16)) rfl ⟨by rw [← HTT.out]; rfl, Bf.new (N.setCell (a := ⟨g, 22, none⟩) (by simp; omega) _) hz⟩
  · have d4 : (h1 == [1]) = false := by rw [beq_eq_false_iff_ne]; exact hh
    have HH : Hid (¬ h1 = [1]) := hh
    clear hh
    replace HTT : Hid (_ = T) := (if_neg HH.out).symm.trans HTT.out
    replace R := R.set 3 (.string (bs h1))
    rw [set_has] at R
    replace Rz := Rz.setOther (a := ⟨g, 3, none⟩) (by simp; omega) (.string (bs h1))
    replace N := N.setCell (a := ⟨g, 3, none⟩) (by simp; omega) (.string (bs h1))
    go_wp2_with fail
    refine (HN _).mono ?_
    rintro _ W8 ⟨rfl, hW8⟩
    rw [← hW8] at R Rz N
    clear hW8
    go_wp2_with fail
    refine (HCh _).mono ?_
    rintro _ W9 ⟨rfl, hW9⟩
    rw [← hW9] at R Rz N
    clear hW9
    go_wp2_with fail
    go_loopw [0, 66] (fun t i wr => ∃ k : Nat, k ≤ n ∧ i = .int .i64 (k : Int) ∧ t = .string (bs (r3.drop (32 * k))) ∧ Row wr g (ptC { ({ ptZ with kind := k1, mask := m1, has := h1 } : Pt) with hs := pad16 (cutH r3 k) }) 44 ∧ Row wr z (ptC ptZ) 44 ∧ New w wr) (fun _ i _ => n - (intOf i).toNat)
    case atStart => exact ⟨0, by omega, rfl, rfl, R, Rz, N⟩
    case round =>
      clear R Rz N
      obtain ⟨k, hk, rfl, rfl, R, Rz, N⟩ := hrel
      have hcl := cutH_length r3 k
      have h16 : (pad16 (cutH r3 k)).length = 16 := pad16_length _ (by omega)
      have HS : Hid (∀ x, k < 16 → (pad16 (cutH r3 k)).set k x = pad16 (cutH r3 k ++ [x])) := fun x hx => pad16_set _ k hcl hx x
      have HS2 : Hid (cutH r3 k ++ [(r3.drop (32 * k)).take 32] = cutH r3 (k + 1)) := (cutH_succ r3 k).symm
      have HD : Hid ((r3.drop (32 * k)).drop 32 = r3.drop (32 * (k + 1))) := by show _ = _; rw [List.drop_drop]; rfl
      by_cases hlt : k < n
      · have hlt' : (k : Int) < (n : Int) := by omega
        have hk16 : (k : Int) < 16 := by omega
        have hk16' : k < 16 := by omega
        have HC := HCut (r3.drop (32 * k))
        generalize r3.drop (32 * k) = rk at *
        go_wp2_with fail
        refine (HC _).mono ?_
        rintro _ Wa ⟨rfl, Na⟩
        replace R := R.after Na
        replace Rz := Rz.after Na
        replace N := N.trans Na
        obtain ⟨u, hu⟩ : ∃ u, (pad16 (cutH r3 k))[k]? = some u := ⟨_, List.getElem?_eq_getElem (by omega)⟩
        have yk := R.has (6 + k) (ptC_hs (P := { ({ ptZ with kind := k1, mask := m1, has := h1 } : Pt) with hs := pad16 (cutH r3 k) }) hu)
        have fk := R.frozen (6 + k)
        replace R := R.set (6 + k) (.string (bs (rk.take 32)))
        rw [set_hash { ({ ptZ with kind := k1, mask := m1, has := h1 } : Pt) with hs := pad16 (cutH r3 k) } k (by show k < (pad16 (cutH r3 k)).length; omega)] at R
        have HR : Hid (Row (Wa.setCell ⟨g, 6 + k, none⟩ (.string (bs (rk.take 32)))) g (ptC { ({ ptZ with kind := k1, mask := m1, has := h1 } : Pt) with hs := pad16 (cutH r3 (k + 1)) }) 44) := by
          show Row _ _ _ _
          rw [← HS2.out, ← HS.out _ hk16']
          exact R
        clear R hu hcl h16
        go_wp2_with fail
        exact ⟨⟨k + 1, by omega, by go_num, by rw [HD.out], HR.out, Rz.setOther (a := ⟨g, 6 + k, none⟩) (by simp; omega) _, N.setCell (a := ⟨g, 6 + k, none⟩) (by simp; omega) _⟩, by simp [intOf]; omega⟩
      · obtain rfl : k = n := by omega
        clear HS HS2 HD
        generalize r3.drop (32 * k) = r9 at *
        generalize pad16 (cutH r3 k) = hh at *
        generalize wr = W at *
        have yr : W.cell? ⟨g, 22, none⟩ = some (.string (bs [])) := (R.cell 22).trans (get_rest _ h16)
        have fr := R.frozen 22
        have hzg' : g ≠ z := by omega
        go_wp2_with (first
          | refine wpList_load_row (by rfl) 44 _ (by rfl) g (by rfl) 44 (ptC { ({ ptZ with kind := k1, mask := m1, has := h1, hs := hh } : Pt) with rest := r9 }) (0, 0) _ (by have h := R.set 22 (.string (bs (r9))); rw [set_rest ({ ptZ with kind := k1, mask := m1, has := h1, hs := hh } : Pt) h16] at h; exact h) Tryd.underlying44 rfl (s44 (P := { ({ ptZ with kind := k1, mask := m1, has := h1, hs := hh } : Pt) with rest := r9 }) h16) ?_
          | (refine wpList_store_new (by rfl) 44 _ _ (by rfl) z (ptC { ({ ptZ with kind := k1, mask := m1, has := h1, hs := hh } : Pt) with rest := r9 }) (by rfl) (by rfl) 44 (ptC ptZ) (Rz.setOther (by simp; omega) _) (s44 (P := { ({ ptZ with kind := k1, mask := m1, has := h1, hs := hh } : Pt) with rest := r9 }) h16) (same44 (Q := { ({ ptZ with kind := k1, mask := m1, has := h1, hs := hh } : Pt) with rest := r9 }) pz16 h16) (ptC_one _) ?_; intro Wf Rf Bf))
        exact bodyPost_ret (results_cell_row rfl _ _ z 44 (ptC { ({ ptZ with kind := k1, mask := m1, has := h1, hs := hh } : Pt) with rest := r9 }) (0, 0) _ rfl Rf Tryd.underlying44 rfl (s44 (P := { ({ ptZ with kind := k1, mask := m1, has := h1, hs := hh } : Pt) with rest := r9 }) h16)) rfl ⟨by rw [← HTT.out]; rfl, Bf.new (N.setCell (a := ⟨g, 22, none⟩) (by simp; omega) _) hz⟩

theorem partsIn_any (l : List UInt8) (hl : l.length ≤ 4000) (w : World) :
    Calls Tryd.prog 23 #[.string (bs l)] w fun e w' => e = .returned (.agg (ptC (inP l))) ∧ New w w' := by
  unfold inP
  by_cases h1 : numN (l.take 1) = 1
  · rw [if_pos h1]; exact in_leaf l hl h1 w
  · rw [if_neg h1]
    by_cases h2 : numN (l.take 1) = 2
    · rw [if_pos h2]; exact in_ext l hl h2 w
    · rw [if_neg h2]
      by_cases h3 : numN (l.take 1) = 3
      · rw [if_pos h3]; exact in_branch l hl h3 w
      · rw [if_neg h3]; exact in_none l _ rfl h1 h2 h3 w

end Go.Proofs.YtecamiefpdkjoaaDoor
