/-
  The document's own disk out of pages; its own pool, made.
-/
import Derived.Test.YtkcoclpbkealgaaDoorRFlush
namespace Go.Proofs.YtkcoclpbkealgaaDoor
open Go.RowKit
set_option maxRecDepth 20000

theorem rd_from {W w1 w : World} {lim : Nat} {l : List (List UInt8)} {v : Value} (hP : Pl W (Fresh w1) 9 1 v (l.map textL)) (hN : New w1 W) (R1 : Row w1 w.heap.size #[.int .i64 (lim : Int), .slice none 0 0, .slice none 0 0, .int .i64 (-1), .bool false] 63) (hs : ∀ x ∈ l, x.length = 256) (h2 : lim ≤ 200) (h3 : l.length ≤ lim) :
    Rd (W.setCell ⟨w.heap.size, 1, none⟩ v) (fun b => w.heap.size ≤ b ∧ b < W.heap.size) w.heap.size ⟨lim, l, [], -1, false⟩ := by
  have hlt := R1.lt
  have hs1 := hN.size
  have e : ∀ b, b ≠ w.heap.size → (W.setCell ⟨w.heap.size, 1, none⟩ v).heap[b]? = W.heap[b]? := fun b hb => Below.heap_setCell _ _ _ _ hb
  refine ⟨⟨hs, (fun x hx => by cases hx), h2, h3, Nat.zero_le _, (by show (-9223372036854775808 : Int) ≤ -1; decide), (by show (-1 : Int) ≤ 9223372036854775807; decide)⟩, ⟨Nat.le_refl _, by omega⟩, (fun b hb => by simpa [World.setCell] using hb.2), v, .slice none 0 0, (R1.after hN).set 1 v, ?_, Pl.nil _ _ _ _⟩
  refine hP.of (fun b hb _ => e b (fun h => ?_)) (fun b hb hl => ⟨⟨?_, hl⟩, fun h => ?_⟩)
  · have : w1.heap.size ≤ b := hb; omega
  · have : w1.heap.size ≤ b := hb; omega
  · have : w1.heap.size ≤ b := hb; omega

set_option maxHeartbeats 4000000 in
theorem reffrom_pages {w w0 : World} {v : Value} {l : List (List UInt8)} (h : Pl w (Fresh w0) 9 1 v (l.map textL)) (hs : ∀ x ∈ l, x.length = 256) (lim : Nat) (h1 : 1 ≤ lim) (h2 : lim ≤ 200) (h3 : l.length ≤ lim) :
    Calls Tryd.prog 11 #[v, .int .i64 (lim : Int)] w fun e w' => New w w' ∧ ∃ p F, e = .returned (.tuple #[.pointer (some ⟨p, 0, none⟩), .bool true]) ∧ Rd w' F p ⟨lim, l, [], -1, false⟩ ∧ ∀ b, F b → w.heap.size ≤ b := by
  obtain ⟨a, c, rfl, _⟩ := h.form
  obtain ⟨hT, hn⟩ := texts_of h
  have HT : Hid (Texts w a (l.map bs)) := hT
  have HS : Hid (∀ x ∈ l, x.length = 256) := hs
  have HL : Hid (1 ≤ lim ∧ lim ≤ 200 ∧ l.length ≤ lim) := ⟨h1, h2, h3⟩
  have hnew := refnew_yes w (lim : Int) (by omega) (by omega)
  rw [List.length_map]
  obtain ⟨n, hnn⟩ : ∃ n, l.length = n := ⟨_, rfl⟩
  have HN : Hid (l.length = n) := hnn
  have h3' : (n : Int) ≤ (lim : Int) := by omega
  have h200 : n ≤ 200 := by omega
  rw [hnn]
  clear h hT hn hs h1 h2 h3 hnn
  go_enter Tryd.func11, Tryd.ntmps11
  go_wp2_with fail
  refine hnew.mono ?_
  rintro _ w1 ⟨rfl, N1, R1⟩
  have HR : Hid (New w w1 ∧ Row w1 w.heap.size #[.int .i64 (lim : Int), .slice none 0 0, .slice none 0 0, .int .i64 (-1), .bool false] 63) := ⟨N1, R1⟩
  clear hnew R1
  go_wp2_with fail
  go_loopw [8] (fun u wr => ∃ i : Nat, u = .int .i64 (i : Int) ∧ i ≤ n ∧ wr = w1) (fun u _ => n - (intOf u).toNat)
  case atStart => exact ⟨0, rfl, by omega, by trivial⟩
  case round =>
    obtain ⟨i, rfl, hi, rfl⟩ := hrel
    by_cases hin : i < n
    · have hin' : (i : Int) < (n : Int) := by omega
      obtain ⟨x, rfl, hx⟩ := (HT.out.after N1) (by rw [List.length_map]; have := HN.out; omega)
      have hx0 := hx i (by rw [List.length_map]; have := HN.out; omega)
      have hil : i < l.length := by have := HN.out; omega
      have hg : (l.map bs).getD i ⟨#[]⟩ = bs l[i] := by rw [List.getD_eq_getElem?_getD, List.getElem?_map, List.getElem?_eq_getElem hil]; rfl
      have hz : ((bs l[i]).size : Int) = 256 := by rw [bs_size, HS.out _ (List.getElem_mem hil)]; rfl
      rw [hg] at hx0
      generalize bs l[i] = s at hx0 hz
      clear hx hg hil
      go_wp2_with fail
      exact ⟨⟨i + 1, by go_num, by omega, by trivial⟩, by simp [intOf]; omega⟩
    · obtain rfl : i = n := by omega
      obtain ⟨N1, R1⟩ := HR.out
      obtain ⟨v, W, hr, hP, hN⟩ := run_copied wr 28 9 28 (.string ⟨#[]⟩) 16 Tryd.underlying28 info9 rfl (by decide) a c ((l.map bs).map Value.string) (texts_cells (HT.out.after N1)) (fun u hu => by obtain ⟨t, _, rfl⟩ := List.mem_map.1 hu; rfl) (by rw [List.length_map, List.length_map, HN.out]; omega)
      rw [List.length_map, List.length_map, HN.out] at hr
      have hcell : W.cell? ⟨w.heap.size, 1, none⟩ = some (.slice none 0 0) := (R1.after hN).cell 1
      have hfr := (R1.after hN).frozen 1
      have HW : Hid (New w W) := N1.trans hN
      have hP' : Pl W (Fresh wr) 9 1 v (l.map textL) := by rw [List.map_map, List.map_map] at hP; exact hP
      have HD : Hid (Rd (W.setCell ⟨w.heap.size, 1, none⟩ v) (fun b => w.heap.size ≤ b ∧ b < W.heap.size) w.heap.size ⟨lim, l, [], -1, false⟩) := rd_from hP' hN R1 HS.out HL.out.2.1 HL.out.2.2
      obtain ⟨a', c', hv, _⟩ := hP'.form
      rw [List.length_map] at hv
      subst hv
      clear hP R1 hP'
      go_wp2_with (refine wpList_appends (by rfl) _ _ 28 28 _ _ _ W (by rfl) (by rfl) (by rfl) (by rfl) hr ?_)
      go_ret2
      exact ⟨HW.out.setCell (Nat.le_refl _) _, _, _, rfl, HD.out, fun b hb => hb.1⟩

theorem built95 (q : Addr) : Tryd.prog.built 95 [(0, .pointer (some q))] = some #[.pointer (some q), .slice none 0 0, .int .i64 0] := by kernel_rfl
def MadeR (w : World) (q : Nat) (G : Nat → Prop) (d : St) (n : Nat) (e : Ending) (w' : World) : Prop :=
  ∃ p g c, e = .returned (.tuple #[.pointer (some ⟨p, 0, none⟩), .bool true]) ∧ (∀ m, d.ws.length ≤ m → RP w' m p g c q G (startP d n)) ∧ w.heap.size ≤ p ∧ w.heap.size ≤ g ∧ New w w'
theorem rnew_no {w : World} (q : Nat) (n : Int) (h : n < 1 ∨ 64 < n) :
    Calls Tryd.prog 13 #[.pointer (some ⟨q, 0, none⟩), .int .i64 n] w fun e w' => e = .returned (.tuple #[.pointer none, .bool false]) ∧ w' = w := by
  by_cases h1 : n < 1
  · go_enter Tryd.func13, Tryd.ntmps13
    go_wp2_with fail
    go_ret2
    exact ⟨rfl, rfl⟩
  · have h2 : 64 < n := by omega
    clear h
    go_enter Tryd.func13, Tryd.ntmps13
    go_wp2_with fail
    go_ret2
    exact ⟨rfl, rfl⟩
set_option maxHeartbeats 4000000 in
theorem rnew_any {w : World} {q : Nat} {G : Nat → Prop} {d : St} (D : Rd w G q d) (n : Nat) (h1 : 1 ≤ n) (h64 : n ≤ 64) :
    Calls Tryd.prog 13 #[.pointer (some ⟨q, 0, none⟩), .int .i64 (n : Int)] w fun e w' => MadeR w q G d n e w' := by
  have t1 : ¬ (n : Int) < 1 := by omega
  have t2 : ¬ (64 : Int) < (n : Int) := by omega
  have HD : Hid (Rd w G q d) := D
  have HN : Hid (1 ≤ n ∧ n ≤ 64) := ⟨h1, h64⟩
  clear D
  go_enter Tryd.func13, Tryd.ntmps13
  go_wp2_with (first | (refine wpList_build1 (by rfl) _ _ (by rfl) _ (by rfl) _ (built95 _) ?_) | (refine wpList_box_at (by rfl) 20 (by rfl) 95 _ (by rfl) _ (by rfl) ?_; intro W3 R3 M3))
  have HW : Hid (Row W3 w.heap.size #[.pointer (some ⟨q, 0, none⟩), .slice none 0 0, .int .i64 0] 95 ∧ New w W3) := ⟨R3, M3⟩
  clear R3 M3
  go_loopw [7] (fun u wr => ∃ (i : Nat) (v : Value), u = .int .i64 (i : Int) ∧ i ≤ n ∧ Hid (Row wr w.heap.size #[.pointer (some ⟨q, 0, none⟩), v, .int .i64 0] 95 ∧ Pl wr (fun x => w.heap.size ≤ x ∧ x ≠ w.heap.size) 97 5 v (List.replicate i (rfL noFm)) ∧ New w wr)) (fun u _ => n - (intOf u).toNat)
  case atStart => exact ⟨0, _, rfl, by omega, HW.out.1, Pl.nil _ _ _ _, HW.out.2⟩
  case round =>
    obtain ⟨i, v, rfl, hi, HI⟩ := hrel
    by_cases h : i < n
    · have h' : (i : Int) < (n : Int) := by omega
      obtain ⟨R, Q, N⟩ := HI.out
      obtain ⟨av, cv, hv, _⟩ := Q.form
      rw [List.length_replicate] at hv
      subst hv
      have c1 := R.cell 1
      have hlt := R.lt
      go_wp2_with (first
        | (refine wpList_build1 (by rfl) _ _ (by rfl) _ (by rfl) _ built97 ?_)
        | (refine wpList_build_one (by rfl) 93 _ (by rfl) Tryd.underlying93 _ _ info97 (rfL noFm).toArray (by rfl) rfl (by decide) (by decide) ?_; intro W4 R4 M4; have Q4 := Q.after M4)
        | (refine wpList_append_pl Q4 (by rfl) _ _ 93 (by rfl) Tryd.underlying93 _ _ info97 rfl (by decide) wr.heap.size (rfL noFm) 97 R4 rfl (rfL_one noFm) (by rw [List.length_replicate]; omega) (by decide) (by rfl) (by rfl) ?_; intro g3 cap3 W5 Q5 G5; have R5 : Row W5 w.heap.size _ 95 := (R.after M4).of (G5.block w.heap.size (Nat.lt_of_lt_of_le hlt M4.size) (fun e => (Q4.foot _ e.symm).2 rfl)); have hs2 := R5.cell 1; have hs3 := R5.frozen 1))
      have N5 : New w W5 := (N.trans M4).grown G5 fun k hk => (Q4.foot k hk).1
      have hsz := N.size
      have hm4 := M4.size
      refine ⟨⟨i + 1, _, by simp, by omega, R5.set 1 _, ?_, N5.setCell (Nat.le_refl _) _⟩, by simp [intOf]; omega⟩
      have Q6 : Pl W5 (fun x => w.heap.size ≤ x ∧ x ≠ w.heap.size) 97 5 (.slice (some ⟨g3, 0, none⟩) (i + 1) cap3) (List.replicate (i + 1) (rfL noFm)) := by
        rw [List.length_replicate] at Q5
        rw [List.replicate_succ']
        refine Q5.mono fun b hb _ => ?_
        rcases hb with hb | hb
        · exact hb
        · exact ⟨by omega, by omega⟩
      exact Q6.of (fun b hb _ => Below.heap_setCell W5 ⟨w.heap.size, 1, none⟩ _ b hb.2) (fun _ h _ => h)
    · obtain rfl : i = n := by omega
      go_wp2_with fail
      go_ret2
      obtain ⟨h1, h64⟩ := HN.out
      obtain ⟨R, Q, N⟩ := HI.out
      obtain ⟨g, c, rfl, hg, hgl, _⟩ := Q.full (by rw [List.length_replicate]; exact h1)
      rw [List.length_replicate] at R Q
      have lt : ∀ x, G x → x < w.heap.size := HD.out.inside
      refine ⟨_, g, c, rfl, fun m hm => ?_, Nat.le_refl _, hg.1, N⟩
      exact {
        inv := inv_start h1 h64
        row := by show Row wr w.heap.size #[_, .slice _ (List.replicate i noFm).length c, _] 95; rw [List.length_replicate]; exact R
        pl := by show Pl wr _ 97 5 (.slice _ (List.replicate i noFm).length c) ((List.replicate i noFm).map rfL); rw [List.length_replicate, List.map_replicate]; exact { Q with foot := fun b hb => by cases hb; rfl }
        disk := HD.out.after N
        pg := fun e => hg.2 e.symm
        np := fun h => by have := lt _ h; omega
        ng := fun h => by have := lt _ h; have := hg.1; omega
        pins := fun f hf => by rw [(List.mem_replicate.1 hf).2]; exact Nat.zero_le _
        room := by show d.ws.length + nd (List.replicate i noFm) ≤ m; rw [nd_start]; omega }
end Go.Proofs.YtkcoclpbkealgaaDoor
