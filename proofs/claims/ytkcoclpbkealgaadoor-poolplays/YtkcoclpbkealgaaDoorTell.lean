/-
  What Pages and Waiting tell.
-/
import Derived.Test.YtkcoclpbkealgaaDoorFrom
namespace Go.Proofs.YtkcoclpbkealgaaDoor
open Go.RowKit
set_option maxRecDepth 20000

theorem made_flat (z : Array Value) (n : Nat) (hz : 0 < z.size) : (madeCells z (n * z.size)).toList = (List.replicate n z.toList).flatten := by
  have he : ∀ e ∈ List.replicate n z.toList, e.length = z.size := fun e h => by rw [(List.mem_replicate.1 h).2, Array.length_toList]
  apply List.ext_getElem?
  intro j
  by_cases hj : j < n * z.size
  · have hd : j / z.size < n := (Nat.div_lt_iff_lt_mul hz).2 hj
    have h1 := flat_cell he (i := j / z.size) (by rw [List.length_replicate]; exact hd) (j := j % z.size) (Nat.mod_lt _ hz)
    have h2 : j / z.size * z.size + j % z.size = j := by rw [Nat.mul_comm]; exact Nat.div_add_mod j z.size
    rw [h2, List.getElem_replicate] at h1
    have hm := Nat.mod_lt j hz
    rw [h1]
    unfold madeCells
    simp [hj, hm]
  · rw [List.getElem?_eq_none (by rw [Array.length_toList, size_madeCells]; omega), List.getElem?_eq_none (by rw [flat_length he, List.length_replicate]; omega)]
theorem run_make_pl (w : World) (T t : TypeId) (z : Value) (n k b : Nat) (hT : Tryd.prog.underlying T = some (.slice t)) (hi : (Tryd.prog.info? t).map (fun i => (i.zero, i.size, i.bytes)) = some (some z, k, b)) (hz : z.cells.size = k) (hk : 0 < k) (hn : n ≤ 1000000) (hb : b ≤ 1000) :
    ∃ W, (Instr.makeSlice T (.int .i64 (n : Int)) (.int .i64 (n : Int))).run Tryd.prog w = .ok (.slice (some ⟨w.heap.size, 0, none⟩) n n) W ∧ Pl W (fun g => g = w.heap.size) t k (.slice (some ⟨w.heap.size, 0, none⟩) n n) (List.replicate n z.cells.toList) ∧ New w W := by
  obtain ⟨i0, hi0, hz0, hz1, hz2⟩ := info_parts hi
  have hbb : b * n ≤ 1000 * 1000000 := Nat.mul_le_mul hb hn
  have h := run_make (P := Tryd.prog) w T t i0 z hT hi0 hz0 .i64 .i64 (n : Int) (n : Int) (by omega) (by omega) (by rw [hz2, ← Int.natCast_mul]; omega) (by omega)
  rw [Int.toNat_natCast, hz1] at h
  refine ⟨_, h, ?_, (New.refl w).alloc _⟩
  subst hz
  have := Pl.make (w := w.alloc (.cells (madeCells z.cells (n * z.cells.size)) t)) (F := fun g => g = w.heap.size) (t := t) (k := z.cells.size) (g := w.heap.size) (c := n) (es := List.replicate n z.cells.toList) (cur := madeCells z.cells (n * z.cells.size))
    (fun e h => by rw [(List.mem_replicate.1 h).2, Array.length_toList]) (Row.new w _ t) (by rw [List.length_replicate]; exact Nat.le_refl _) (by unfold maxLen; omega) (size_madeCells _ _) (by
      rw [List.length_replicate, made_flat _ _ hk, List.take_of_length_le]
      rw [flat_length (k := z.cells.size) (fun e h => by rw [(List.mem_replicate.1 h).2, Array.length_toList]), List.length_replicate]; exact Nat.le_refl _) rfl
  rw [List.length_replicate] at this
  exact this
theorem info9 : (Tryd.prog.info? 9).map (fun i => (i.zero, i.size, i.bytes)) = some (some (.string ⟨#[]⟩), 1, 16) := by kernel_rfl
theorem info82 : (Tryd.prog.info? 76).map (fun i => (i.zero, i.size, i.bytes)) = some (some (.agg #[.int .i64 0, .string ⟨#[]⟩]), 2, 24) := by kernel_rfl
theorem built82 (a : Int) (s : ByteArray) : Tryd.prog.built 76 [(0, .int .i64 a), (1, .string s)] = some #[.int .i64 a, .string s] := by kernel_rfl
theorem i82 : (Tryd.prog.info? 76).map (·.size) = some 2 := by kernel_rfl
/-- The first k are told. -/
theorem told_next {α : Type} (f : α → List Value) (l : List α) (d : α) (z : List Value) (n k : Nat) (hn : l.length = n) (hk : k < n) : ((l.take k).map f ++ List.replicate (n - k) z).set k (f (l.getD k d)) = (l.take (k + 1)).map f ++ List.replicate (n - (k + 1)) z := by
  have h1 : ((l.take k).map f).length = k := by rw [List.length_map, List.length_take]; omega
  rw [List.set_append_right _ _ (by omega), h1, Nat.sub_self, show n - k = (n - (k + 1)) + 1 by omega, List.replicate_succ, List.set_cons_zero, List.take_add_one, List.getElem?_eq_getElem (by omega), List.map_append, List.getD_eq_getElem?_getD, List.getElem?_eq_getElem (by omega), List.append_assoc]
  rfl

theorem pages_nil (w : World) : Calls Tryd.prog 34 #[.pointer none] w fun e w' => e = .returned (.slice none 0 0) ∧ w' = w := by
  go_enter Tryd.func34, Tryd.ntmps34
  go_wp2_with fail
  go_ret
  exact ⟨rfl, rfl⟩
theorem waiting_nil (w : World) : Calls Tryd.prog 32 #[.pointer none] w fun e w' => e = .returned (.slice none 0 0) ∧ w' = w := by
  go_enter Tryd.func32, Tryd.ntmps32
  go_wp2_with fail
  go_ret
  exact ⟨rfl, rfl⟩

set_option maxRecDepth 20000 in
set_option maxHeartbeats 1000000 in
theorem pages_any {w : World} {F : Nat → Prop} {p : Nat} {S : St} (D : Disk w F p S) :
    Calls Tryd.prog 34 #[.pointer (some ⟨p, 0, none⟩)] w fun e w' => ∃ v, e = .returned v ∧ Pl w' (Fresh w) 9 1 v ((latest S.ps S.ws).map textL) ∧ New w w' := by
  have hlt := latest_any D
  have hlen : (latest S.ps S.ws).length ≤ 200 := by rw [latest_length]; have := D.ok.len; have := D.ok.lim; omega
  have hpg := D.ok.latest _ (Nat.le_refl S.ws.length)
  change ∀ q ∈ latest S.ps S.ws, q.length = 256 at hpg
  have HG : Hid (∀ q ∈ latest S.ps S.ws, q.length = 256) := hpg
  clear D hpg
  generalize latest S.ps S.ws = lp at hlt hlen HG ⊢
  go_enter Tryd.func34, Tryd.ntmps34
  go_wp2_with fail
  refine hlt.mono ?_
  rintro _ w1 ⟨v, rfl, Q1, N1⟩
  clear hlt
  obtain ⟨av, cv, rfl, _⟩ := Q1.form
  rw [List.length_map] at Q1
  obtain ⟨W, hmk, QW, NW⟩ := run_make_pl w1 28 9 (.string ⟨#[]⟩) lp.length 1 16 Tryd.underlying28 info9 rfl (by decide) (by omega) (by decide)
  have HQ : Hid (Pl W (fun g => g = w1.heap.size) 9 1 (.slice (some ⟨w1.heap.size, 0, none⟩) lp.length lp.length) (List.replicate lp.length [.string ⟨#[]⟩])) := QW
  have HQ1 : Hid (Pl W (fun g => w.heap.size ≤ g ∧ g < w1.heap.size) 85 256 (.slice av lp.length cv) (lp.map cellsL)) := (Q1.mono fun b hb hlt => ⟨hb, hlt⟩).after NW
  rw [show (lp.map cellsL).length = lp.length by rw [List.length_map]]
  clear QW Q1
  go_wp2_with fail
  clear hmk
  have hw1 := N1.size
  go_loopw [16] (fun i wr => ∃ k : Nat, k ≤ lp.length ∧ i = .int .i64 (k : Int) ∧ Pl wr (fun g => g = w1.heap.size) 9 1 (.slice (some ⟨w1.heap.size, 0, none⟩) lp.length lp.length) ((lp.take k).map textL ++ List.replicate (lp.length - k) [.string ⟨#[]⟩]) ∧ Pl wr (fun g => w.heap.size ≤ g ∧ g < w1.heap.size) 85 256 (.slice av lp.length cv) (lp.map cellsL) ∧ New w wr ∧ w1.heap.size < wr.heap.size) (fun i _ => lp.length - (intOf i).toNat)
  case atStart => exact ⟨0, by omega, rfl, by simpa using HQ.out, HQ1.out, N1.trans NW, HQ.out.lt rfl⟩
  case round =>
    obtain ⟨k, hk, rfl, Q2, Q3, N2, hH⟩ := hrel
    by_cases hlt : k < lp.length
    · have hlt' : (k : Int) < (lp.length : Int) := by omega
      obtain ⟨g1, _, e1, hg1, _, _⟩ := Q3.full (by rw [List.length_map]; omega)
      rw [List.length_map] at e1
      cases e1
      have hx := map_getD cellsL lp k [] hlt
      have hd : (lp.getD k []).length = 256 := by rw [List.getD_eq_getElem?_getD, List.getElem?_eq_getElem hlt]; exact HG.out _ (List.getElem_mem hlt)
      have HL' : Hid (((lp.take k).map textL ++ List.replicate (lp.length - k) [Value.string ⟨#[]⟩]).set k (textL (lp.getD k [])) = (lp.take (k + 1)).map textL ++ List.replicate (lp.length - (k + 1)) [Value.string ⟨#[]⟩]) := told_next textL lp [] _ lp.length k rfl hlt
      generalize lp.getD k [] = d at hx hd HL'
      have ht := text_any d hd
      go_wp2_with (first
        | refine wpList_load_pl (by rfl) 85 _ (by rfl) _ 85 256 g1 _ _ k _ _ _ Q3 hx (by rfl) Tryd.underlying85 rfl (by rw [cellsL_length, hd]; exact i77) ?_
        | (refine wpList_alloc_new (by rfl) 85 (by rfl) _ _ _ info77 ?_; intro W1 R1 M1)
        | (refine wpList_store_new (by rfl) 85 _ _ (by rfl) wr.heap.size (cellsL d).toArray (by rfl) (by rfl) 85 _ R1 (by rw [cellsL_size, hd]; exact i77) (by rw [cellsL_size, cellsL_size, hd, zeros_length]) (cellsL_all _) ?_; intro W2 R2 B2; have M2 : New wr W2 := B2.new M1 (Nat.le_refl _))
        | (refine wpList_load_row (by rfl) 85 _ (by rfl) wr.heap.size (by rfl) 85 (cellsL d).toArray (0, 0) _ R2 Tryd.underlying85 rfl (by rw [cellsL_size, hd]; exact i77) ?_))
      refine (ht _).mono ?_
      rintro _ W3 ⟨rfl, N3⟩
      have M3 := M2.trans N3
      have Q23 := Q2.after M3
      have hkl : k < ((lp.take k).map textL ++ List.replicate (lp.length - k) [Value.string ⟨#[]⟩]).length := by rw [List.length_append, List.length_map, List.length_take, List.length_replicate]; omega
      have hth := Q23.there hkl 0 (by decide)
      rw [Nat.mul_one, Nat.add_zero] at hth
      obtain ⟨u, hu⟩ := Option.isSome_iff_exists.1 hth.1
      have hfz := hth.2
      have Q4 := Q23.set hkl (e := textL d) rfl
      rw [Nat.mul_one, HL'.out] at Q4
      have HQ4 : Hid (Pl (W3.setCell ⟨w1.heap.size, k, none⟩ (.string (bs d))) (fun g => g = w1.heap.size) 9 1 (.slice (some ⟨w1.heap.size, 0, none⟩) lp.length lp.length) ((lp.take (k + 1)).map textL ++ List.replicate (lp.length - (k + 1)) [.string ⟨#[]⟩])) := Q4
      clear Q4 hth
      go_wp2_with fail
      refine ⟨⟨k + 1, by omega, by go_num, HQ4.out, (Q3.after M3).of (fun b hb _ => Below.heap_setCell _ _ _ _ (by show b ≠ w1.heap.size; omega)) (fun _ h _ => h), (N2.trans M3).setCell (by show w.heap.size ≤ w1.heap.size; omega) _, ?_⟩, by simp [intOf]; omega⟩
      have := M3.size
      simp only [World.setCell, Array.size_modify]
      omega
    · obtain rfl : k = lp.length := by omega
      have HQ2 : Hid (Pl wr (Fresh w) 9 1 (.slice (some ⟨w1.heap.size, 0, none⟩) lp.length lp.length) (lp.map textL)) := by
        have := Q2.mono (G := Fresh w) (fun b hb _ => by rw [hb]; exact hw1)
        rw [List.take_length, Nat.sub_self, List.replicate_zero, List.append_nil] at this
        exact this
      clear Q2
      go_wp2_with fail
      go_ret
      exact ⟨_, rfl, HQ2.out, N2⟩

set_option maxRecDepth 20000 in
set_option maxHeartbeats 1000000 in
theorem waiting_any {w : World} {F : Nat → Prop} {p : Nat} {S : St} (D : Disk w F p S) :
    Calls Tryd.prog 32 #[.pointer (some ⟨p, 0, none⟩)] w fun e w' => ∃ v, e = .returned v ∧ Pl w' (Fresh w) 76 2 v (S.ws.map tellL) ∧ New w w' := by
  have hok := D.ok
  have hfew := hok.few
  have hpl := D.lt
  obtain ⟨a1, c1, a2, c2, _, _, h2, _, _, hf, _, _, P2⟩ := D.open
  have HP : Hid (Pl w (fun g => F g ∧ g ≠ p ∧ (Value.slice a1 S.ps.length c1).ownBlock ≠ some g) 113 257 (.slice a2 S.ws.length c2) (S.ws.map waitL)) := P2
  clear D hf P2
  obtain ⟨W, hmk, QW, NW⟩ := run_make_pl w 60 76 (.agg #[.int .i64 0, .string ⟨#[]⟩]) S.ws.length 2 24 Tryd.underlying60 info82 rfl (by decide) (by omega) (by decide)
  have HQ : Hid (Pl W (fun g => g = w.heap.size) 76 2 (.slice (some ⟨w.heap.size, 0, none⟩) S.ws.length S.ws.length) (List.replicate S.ws.length [.int .i64 0, .string ⟨#[]⟩])) := QW
  clear QW
  have k2 := (NW.cell (p := ⟨p, 2, none⟩) hpl).trans h2
  go_enter Tryd.func32, Tryd.ntmps32
  go_wp2_with fail
  clear hmk h2 k2
  go_loopw [19] (fun i wr => ∃ k : Nat, k ≤ S.ws.length ∧ i = .int .i64 (k : Int) ∧ Pl wr (fun g => g = w.heap.size) 76 2 (.slice (some ⟨w.heap.size, 0, none⟩) S.ws.length S.ws.length) ((S.ws.take k).map tellL ++ List.replicate (S.ws.length - k) [.int .i64 0, .string ⟨#[]⟩]) ∧ New w wr) (fun i _ => S.ws.length - (intOf i).toNat)
  case atStart => exact ⟨0, by omega, rfl, by simpa using HQ.out, NW⟩
  case round =>
    obtain ⟨k, hk, rfl, Q2, N2⟩ := hrel
    by_cases hlt : k < S.ws.length
    · have hlt' : (k : Int) < (S.ws.length : Int) := by omega
      obtain ⟨g2, _, e2, hg2, _, _⟩ := HP.out.full (by rw [List.length_map]; omega)
      rw [List.length_map] at e2
      cases e2
      have P2 := HP.out.after N2
      have hx := map_getD waitL S.ws k (0, []) hlt
      obtain ⟨_, hd⟩ := hok.at hlt
      have HL' : Hid (((S.ws.take k).map tellL ++ List.replicate (S.ws.length - k) [Value.int .i64 0, Value.string ⟨#[]⟩]).set k (tellL (S.ws.getD k (0, []))) = (S.ws.take (k + 1)).map tellL ++ List.replicate (S.ws.length - (k + 1)) [Value.int .i64 0, Value.string ⟨#[]⟩]) := told_next tellL S.ws (0, []) _ S.ws.length k rfl hlt
      generalize S.ws.getD k (0, []) = x at hx hd HL'
      obtain ⟨at_, d⟩ := x
      simp only at hd
      have ht := text_any d hd
      go_wp2_with (first
        | refine wpList_load_pl (by rfl) 113 _ (by rfl) _ 113 257 g2 _ _ k _ _ _ P2 hx (by rfl) Tryd.underlying113 rfl (by rw [waitL_length hd]; exact i80) ?_
        | (refine wpList_alloc_new (by rfl) 113 (by rfl) _ _ _ info80 ?_; intro W1 R1 M1)
        | (refine wpList_store_new (by rfl) 113 _ _ (by rfl) wr.heap.size (waitL (at_, d)).toArray (by rfl) (by rfl) 113 _ R1 (by rw [List.size_toArray, waitL_length hd]; exact i80) (by rw [List.size_toArray, List.size_toArray, waitL_length (x := (at_, d)) hd, waitL_length (x := (0, zeros)) zeros_length]) (waitL_all _) ?_; intro W2 R2 B2; have M2 : New wr W2 := B2.new M1 (Nat.le_refl _)))
      have hne := NewW.ne W2
      have hq0 : ∀ q : NewW W2, q.v.cell? ⟨wr.heap.size, 0, none⟩ = some (.int .i64 (at_ : Int)) := fun q => NewW.cell (waitL_at R2) q
      have hqd : ∀ q : NewW W2, q.v.rangeAt wr.heap.size 1 (cellsL d) := fun q => waitL_range (R2.after q.h) hd
      refine region_ord [0, 1, 2, 3, 4, 5, 6, 7, 8] [9] W2 (New.refl W2) (by kernel_rfl) (by kernel_rfl) ?_
      simp only [pick, List.getElem?_cons_succ, List.getElem?_cons_zero, Option.toList_some, List.cons_append, List.nil_append, Act.put]
      iterate 5 (go_big_quiet_step (fail))
      refine wpQuiet_load_mid (by rfl) 85 _ (by rfl) wr.heap.size 1 (by rfl) (cellsL d) hqd _ Tryd.underlying85 rfl (by rw [cellsL_length, hd]; exact i77) ?_
      simp only [Act.put, List.setIfInBounds_toArray, List.set_cons_zero, List.set_cons_succ]
      iterate 1 (go_big_quiet_step (first | (go_at_call 57; exact Calls.neww (ht _))))
      refine wpQuiet_run (by rfl) (.agg (tellL (at_, d)).toArray) (fun w _ => exec_build2 (by rfl) (by rfl) (by rfl) (run_build w 76 _ _ (built82 (at_ : Int) (bs d)))) ?_
      simp only [Act.put, List.setIfInBounds_toArray, List.set_cons_zero, List.set_cons_succ]
      iterate 1 (go_big_quiet_step (fail))
      refine wpQuiet_nil ?_
      rintro W5 ⟨⟨_, N5⟩, rfl⟩
      have M5 := M2.trans N5
      have Q5 := Q2.after M5
      clear hq0 hqd hne ht
      go_wp2_with (refine wpList_store_pl (by rfl) 76 _ _ (by rfl) _ 76 2 w.heap.size _ _ k _ (tellL (at_, d)) Q5 (by rw [List.length_append, List.length_map, List.length_take, List.length_replicate]; omega) (by rfl) (by rfl) rfl i82 (by intro v hv; simp [tellL] at hv; rcases hv with rfl | rfl <;> rfl) ?_; intro W6 Q6 B6)
      rw [HL'.out] at Q6
      exact ⟨⟨k + 1, by omega, by go_num, Q6, B6.new (N2.trans M5) (Nat.le_refl _)⟩, by simp [intOf]; omega⟩
    · obtain rfl : k = S.ws.length := by omega
      have HQ2 : Hid (Pl wr (Fresh w) 76 2 (.slice (some ⟨w.heap.size, 0, none⟩) S.ws.length S.ws.length) (S.ws.map tellL)) := by
        have := Q2.mono (G := Fresh w) (fun b hb _ => by rw [hb]; exact Nat.le_refl _)
        rw [List.take_length, Nat.sub_self, List.replicate_zero, List.append_nil] at this
        exact this
      clear Q2
      go_wp2_with fail
      go_ret
      exact ⟨_, rfl, HQ2.out, N2⟩

end Go.Proofs.YtkcoclpbkealgaaDoor
