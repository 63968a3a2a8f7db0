/-
  Dirty: the pages that are dirty, rising.
-/
import Derived.Test.YtkcoclpbkealgaaDoorQPut
namespace Go.Proofs.YtkcoclpbkealgaaDoor
open Go.RowKit
set_option maxRecDepth 20000

def zs (l : List Nat) : List Int := l.map fun n : Nat => (n : Int)
theorem zs_length (l : List Nat) : (zs l).length = l.length := by unfold zs; rw [List.length_map]
theorem intsL_at {l : List Nat} {i : Nat} (h : i < l.length) : (intsL l)[i]? = some [.int .i64 ((l.getD i 0 : Nat) : Int)] := by
  unfold intsL
  rw [List.getElem?_map, List.getElem?_eq_getElem h, List.getD_eq_getElem?_getD, List.getElem?_eq_getElem h]; rfl
/-- A cell of a row of numbers. -/
theorem Pl.num {w : World} {F : Nat → Prop} {g n c : Nat} {l : List Nat} (h : Pl w F 3 1 (.slice (some ⟨g, 0, none⟩) n c) (intsL l)) {i : Nat} (hi : i < l.length) : w.cell? ⟨g, i, none⟩ = some (.int .i64 ((l.getD i 0 : Nat) : Int)) := by
  have hi2 : i < (intsL l).length := by rw [intsL_length]; exact hi
  have h1 := h.range hi2
  have h2 := intsL_at hi
  rw [List.getElem?_eq_getElem hi2] at h2
  have h3 : (intsL l)[i] = [.int .i64 ((l.getD i 0 : Nat) : Int)] := by injection h2
  rw [h3] at h1
  have := h1 0 _ rfl
  rw [Nat.mul_one, Nat.add_zero] at this
  exact this
theorem Pl.holds {w : World} {F : Nat → Prop} {g n c : Nat} {l : List Nat} (h : Pl w F 3 1 (.slice (some ⟨g, 0, none⟩) n c) (intsL l)) : Go.Sort.Holds (Value.int .i64) w g 0 (zs l).toArray := by
  intro j hj
  rw [List.size_toArray, zs_length] at hj
  obtain ⟨cur, R, _⟩ := h.row
  refine ⟨?_, by rw [Nat.zero_add]; exact R.frozen j⟩
  rw [Nat.zero_add, h.num hj]
  unfold zs
  simp [List.getD_eq_getElem?_getD, hj]
/-- The world behind the sort. -/
theorem Pl.sorted {w w' : World} {F : Nat → Prop} {b n cap : Nat} {l : List Nat} (h : Pl w F 3 1 (.slice (some ⟨b, 0, none⟩) n cap) (intsL l)) {ys : List Nat} (hl : ys.length = l.length) (k : Nat) (os : Array Obj)
    (e : w' = Go.Sort.grow (Go.Sort.putRow (Value.int .i64) (Go.Sort.ahead w k) b 0 (zs ys).toArray) os) :
    Pl w' F 3 1 (.slice (some ⟨b, 0, none⟩) n cap) (intsL ys) ∧ w'.os = w.os ∧ w'.tape = w.tape ∧ w'.output = w.output ∧ w.heap.size ≤ w'.heap.size ∧ ∀ k, k < w.heap.size → k ≠ b → w'.heap[k]? = w.heap[k]? := by
  obtain ⟨cur, R, h2, h3, h4, h5, h6⟩ := h.row
  have hlt := R.lt
  have hb : ∀ k, k < w.heap.size → w'.heap[k]? = if b = k then (w.heap[k]?).map (Go.Sort.onCells (Go.Sort.putCells (Value.int .i64) 0 (zs ys).toArray)) else w.heap[k]? := by
    intro k hk
    rw [e, Go.Sort.heap_grow_old _ _ (by simpa using hk)]
    show ((w.heap).modify b _)[k]? = _
    rw [Array.getElem?_modify]
  rw [intsL_length] at h2
  have hR : Row w' b (Go.Sort.putCells (Value.int .i64) 0 (zs ys).toArray cur) 3 := by
    unfold Row at R ⊢
    rw [hb b hlt, if_pos rfl, R]; rfl
  refine ⟨?_, by rw [e]; rfl, by rw [e]; rfl, by rw [e]; rfl, by rw [e, Go.Sort.size_grow]; simp, fun k hk hne => by rw [hb k hk, if_neg (Ne.symm hne)]⟩
  have := Pl.make (w := w') (F := F) (t := 3) (k := 1) (g := b) (c := cap) (es := intsL ys) (cur := Go.Sort.putCells (Value.int .i64) 0 (zs ys).toArray cur) (fun x hx => by unfold intsL at hx; obtain ⟨_, _, rfl⟩ := List.mem_map.1 hx; rfl) hR (by rw [intsL_length]; omega) h4 (by simp [Go.Sort.putCells, h5]) ?_ (h.foot b rfl)
  · rw [intsL_length, hl, ← h2] at this; exact this
  · rw [flat_ints, intsL_length, Nat.mul_one]
    apply List.ext_getElem?
    intro j
    rw [List.getElem?_take]
    by_cases hj : j < ys.length
    · rw [if_pos hj, Array.getElem?_toList, List.getElem?_map, List.getElem?_eq_getElem hj]
      simp only [Go.Sort.putCells, Array.getElem?_mapIdx]
      rw [Array.getElem?_eq_getElem (by omega)]
      simp [zs, hj]
    · rw [if_neg hj, List.getElem?_eq_none (by rw [List.length_map]; omega)]
theorem dirties_next {fs : List Fm} {i : Nat} (h : i < fs.length) : dirties (fs.take (i + 1)) = dirties (fs.take i) ++ (if (fs.getD i noFm).dirty then [(fs.getD i noFm).at_] else []) := by
  unfold dirties
  rw [List.take_succ_eq_append_getElem h, List.filter_append, List.map_append, List.getD_eq_getElem?_getD, List.getElem?_eq_getElem h]
  simp only [Option.getD_some]
  congr 1
  cases hd : fs[i].dirty <;> simp [hd]
theorem dirties_le (fs : List Fm) : (dirties fs).length ≤ fs.length := by unfold dirties; rw [List.length_map]; exact List.length_filter_le _ _
theorem info3 : (Tryd.prog.info? 3).map (fun i => (i.zero, i.size, i.bytes)) = some (some (.int .i64 0), 1, 8) := by kernel_rfl
theorem sort_call (l : List Nat) {w : World} {F : Nat → Prop} {v : Value} (h : Pl w F 3 1 v (intsL l)) (hl : l.length ≤ 100000) :
    Calls Tryd.prog 56 #[v] w fun e w' => e = .returned (.tuple #[]) ∧ Pl w' F 3 1 v (intsL (YtkcoclpbkealgaaDoor.sorted l)) ∧ Step F F w w' := by
  cases l with
  | nil =>
    obtain ⟨a, c, rfl, _⟩ := h.form
    refine (Tryd.slices_Sort_int_none a c w).mono ?_
    rintro _ _ ⟨rfl, rfl⟩
    exact ⟨rfl, by rw [show YtkcoclpbkealgaaDoor.sorted ([] : List Nat) = [] by unfold YtkcoclpbkealgaaDoor.sorted; simp]; exact h, Step.refl _ _⟩
  | cons x l =>
    obtain ⟨b, c, rfl, hF, hlt, _⟩ := h.full (by rw [intsL_length]; simp)
    have hh := h.holds
    have hlen : (intsL (x :: l)).length = (zs (x :: l)).length := by rw [intsL_length, zs_length]
    have := Tryd.slices_Sort_int b 0 c (zs (x :: l)) w hh hlt (by rw [zs_length]; omega)
    rw [hlen]
    refine this.mono ?_
    rintro _ w' ⟨rfl, k, os, e⟩
    have he : (zs (x :: l)).mergeSort (fun x y => decide (x ≤ y)) = zs (YtkcoclpbkealgaaDoor.sorted (x :: l)) := sort_nat (x :: l)
    rw [he] at e
    rw [hlen] at h
    obtain ⟨h1, h2, h3, h4, h5, h6⟩ := h.sorted (sorted_length (x :: l)) k os e
    exact ⟨rfl, h1, h2, h3, h4, h5, fun i hi hn => h6 i hi (fun e2 => hn (e2 ▸ hF)), fun _ h => .inl h⟩

theorem New.trans' {w w1 w2 : World} (h : New w w1) (s : Step (Fresh w) (Fresh w) w1 w2) : New w w2 :=
  ⟨s.os.trans h.os, s.tape.trans h.tape, s.output.trans h.output, Nat.le_trans h.size s.size, fun i hi => (s.block i (Nat.lt_of_lt_of_le hi h.size) (fun hf => by have : w.heap.size ≤ i := hf; omega)).trans (h.block i hi)⟩
set_option maxHeartbeats 4000000 in
theorem dirty_any {w : World} {m p g b q : Nat} {Fd : Nat → Prop} {S : PS} (P : Pool w m p g b q Fd S) :
    Calls Tryd.prog 30 #[.pointer (some ⟨p, 0, none⟩)] w fun e w' => ∃ v, e = .returned v ∧ Pl w' (Fresh w) 3 1 v (intsL (sorted (dirties S.fs))) ∧ New w w' := by
  obtain ⟨n, hn⟩ : ∃ n, S.fs.length = n := ⟨_, rfl⟩
  have c1 : w.cell? ⟨p, 1, none⟩ = some (.slice (some ⟨g, 0, none⟩) n n) := by rw [← hn]; exact P.bits.row.cell 1
  have h64 : n ≤ 64 := by rw [← hn]; exact P.inv.most
  have HP : Hid (Pl w (fun x => x = g) 103 5 (.slice (some ⟨g, 0, none⟩) n n) (S.fs.map fmL)) := by rw [← hn]; exact P.bits.pl
  have HN : Hid (S.fs.length = n) := hn
  have hgl : g < w.heap.size := P.bits.g_lt
  generalize S.fs = fs at HP HN ⊢
  clear P hn
  go_enter Tryd.func30, Tryd.ntmps30
  go_wp2_with fail
  go_loopw [3, 13] (fun v u wr => ∃ i : Nat, u = .int .i64 (i : Int) ∧ i ≤ n ∧ Hid (Pl wr (Fresh w) 3 1 v (intsL (dirties (fs.take i))) ∧ New w wr)) (fun _ u _ => n - (intOf u).toNat)
  case atStart => exact ⟨0, rfl, by omega, Pl.nil _ _ _ _, New.refl _⟩
  case round =>
    obtain ⟨i, rfl, hi, HI⟩ := hrel
    by_cases h : i < n
    · have hif : i < fs.length := by rw [HN.out]; exact h
      have hnx := dirties_next hif
      have hdl := dirties_le (fs.take i)
      rw [List.length_take] at hdl
      obtain ⟨f, hf⟩ : ∃ f, f = fs.getD i noFm := ⟨_, rfl⟩
      have he : (fs.map fmL)[i]? = some (fmL f) := by rw [hf]; exact map_getD fmL fs i noFm hif
      rw [← hf] at hnx
      have HX : Hid (dirties (fs.take (i + 1)) = dirties (fs.take i) ++ (if f.dirty then [f.at_] else [])) := hnx
      have HL : Hid ((intsL (dirties (fs.take i))).length ≤ 1000000) := by show (intsL (dirties (fs.take i))).length ≤ 1000000; rw [intsL_length]; omega
      have hPr : Pl wr (fun x => x = g) 103 5 (.slice (some ⟨g, 0, none⟩) n n) (fs.map fmL) := HP.out.after HI.out.2
      have HPr : Hid (Pl wr (fun x => x = g) 103 5 (.slice (some ⟨g, 0, none⟩) n n) (fs.map fmL)) := hPr
      clear hf hif hnx hdl hPr
      cases hd : f.dirty
      · go_wp2_with (first
          | (refine wpList_load_pl (by rfl) _ _ (by rfl) _ 103 5 g n n i _ _ _ HPr.out he (by rfl) Tryd.underlying103 (by rfl) i103 ?_)
          | (refine wpList_alloc_new (by rfl) 103 (by rfl) _ _ _ info103 ?_; intro W1 R1 M1)
          | (refine wpList_store_new (by rfl) 103 _ _ (by rfl) wr.heap.size (fmL f).toArray (by rfl) (by rfl) 103 _ R1 i103 rfl (fmL_all f) ?_; intro W2 R2 B2; have M2 : New wr W2 := B2.new M1 (Nat.le_refl _); have k3 : W2.cell? ⟨wr.heap.size, 3, none⟩ = some (.bool false) := (by rw [R2.cell 3]; simp [fmL, hd])))
        refine ⟨⟨i + 1, by simp, by omega, ?_⟩, by simp [intOf]; omega⟩
        rw [HX.out, hd, if_neg (by decide), List.append_nil]
        exact ⟨HI.out.1.after M2, HI.out.2.trans M2⟩
      · go_wp2_with (first
          | (refine wpList_load_pl (by rfl) _ _ (by rfl) _ 103 5 g n n i _ _ _ HPr.out he (by rfl) Tryd.underlying103 (by rfl) i103 ?_)
          | (refine wpList_alloc_new (by rfl) 103 (by rfl) _ _ _ info103 ?_; intro W1 R1 M1)
          | (refine wpList_store_new (by rfl) 103 _ _ (by rfl) wr.heap.size (fmL f).toArray (by rfl) (by rfl) 103 _ R1 i103 rfl (fmL_all f) ?_; intro W2 R2 B2; have M2 : New wr W2 := B2.new M1 (Nat.le_refl _); have k3 : W2.cell? ⟨wr.heap.size, 3, none⟩ = some (.bool true) := (by rw [R2.cell 3]; simp [fmL, hd]); have k0 : W2.cell? ⟨wr.heap.size, 0, none⟩ = some (.int .i64 (f.at_ : Int)) := (by rw [R2.cell 0]; simp [fmL]))
          | (refine wpList_append_pl (HI.out.1.after (M2.trans ((New.refl W2).alloc _))) (by rfl) _ _ 56 (by rfl) Tryd.underlying56 _ _ info3 rfl (by decide) W2.heap.size [.int .i64 (f.at_ : Int)] 3 (Row.new W2 _ 3) rfl (fun u hu => by obtain rfl : u = .int .i64 (f.at_ : Int) := (by simpa using hu); rfl) HL.out (by decide) (by rfl) (by rfl) ?_; intro g3 cap3 W4 Q4 G4))
        have hsz := HI.out.2.size
        have hs2 := M2.size
        refine ⟨⟨i + 1, by simp, by omega, ?_⟩, by simp [intOf]; omega⟩
        rw [HX.out, hd, if_pos rfl]
        refine ⟨?_, ?_⟩
        · unfold intsL at Q4 ⊢
          rw [List.map_append]
          refine Q4.mono fun b hb _ => ?_
          rcases hb with hb | hb
          · exact hb
          · rw [World.size_alloc] at hb
            show w.heap.size ≤ b
            omega
        · exact (HI.out.2.trans (M2.trans ((New.refl W2).alloc _))).grown G4 fun k hk => HI.out.1.foot k hk
    · obtain rfl : i = n := by omega
      rw [List.take_of_length_le (by rw [HN.out]; exact Nat.le_refl _)] at HI
      have hsc := sort_call _ HI.out.1 (by have := dirties_le fs; rw [HN.out] at this; omega)
      go_wp2_with fail
      refine hsc.mono ?_
      rintro _ w2 ⟨rfl, Q2, s2⟩
      go_wp2_with fail
      go_ret
      have hN := HI.out.2
      exact ⟨_, rfl, Q2, hN.trans' s2⟩
end Go.Proofs.YtkcoclpbkealgaaDoor
