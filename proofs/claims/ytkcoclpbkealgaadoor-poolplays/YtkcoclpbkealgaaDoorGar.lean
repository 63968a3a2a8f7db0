/-
  The document's own New and From: is there a disk? The document's own disk in memory. What the document's own disk tells: act, at, Read, Fuse, Pages. What the document's own disk leaves behind Write, and what its Pages tells. What the document's own disk leaves behind Sync and Grow. What the document's own disk leaves behind Grow and Shrink.
-/
import Derived.Test.YtkcoclpbkealgaaDoorGaj
import Derived.Test.YtkcoclpbkealgaaDoorGaq
namespace Go.Proofs.YtkcoclpbkealgaaDoor
open Go.RowKit
set_option maxRecDepth 20000

theorem refnew_no (w : World) (lim : Int) (h : ¬ (1 ≤ lim ∧ lim ≤ 200)) : Calls Tryd.prog 40 #[.int .i64 lim] w fun e w' => e = .returned (.tuple #[.pointer none, .bool false]) ∧ w' = w := by
  by_cases h1 : lim < 1
  · clear h
    go_enter Tryd.func40, Tryd.ntmps40
    go_wp2_with fail
    go_ret2
    exact ⟨rfl, rfl⟩
  · have h2 : 200 < lim := by omega
    clear h
    go_enter Tryd.func40, Tryd.ntmps40
    go_wp2_with fail
    go_ret2
    exact ⟨rfl, rfl⟩
theorem refnew_yes (w : World) (lim : Int) (h1 : 1 ≤ lim) (h2 : lim ≤ 200) : Calls Tryd.prog 40 #[.int .i64 lim] w fun e w' =>
    e = .returned (.tuple #[.pointer (some ⟨w.heap.size, 0, none⟩), .bool true]) ∧ New w w' ∧ Row w' w.heap.size #[.int .i64 lim, .slice none 0 0, .slice none 0 0, .int .i64 (-1), .bool false] 63 := by
  have h3 : ¬ lim < 1 := by omega
  have h4 : ¬ 200 < lim := by omega
  go_enter Tryd.func40, Tryd.ntmps40
  go_wp2_with fail
  go_ret2
  exact ⟨rfl, (New.refl w).alloc _, Row.new w _ _⟩

theorem fromB_eq {ts : List ByteArray} {lim : Int} (h1 : 1 ≤ lim ∧ lim ≤ 200) (h2 : (ts.length : Int) ≤ lim) : fromB ts lim = ts.all fun t => t.size == 256 := by
  unfold fromB
  rw [decide_eq_true ⟨h1.1, h1.2, h2⟩, Bool.true_and]

set_option maxRecDepth 20000 in
set_option maxHeartbeats 2000000 in
theorem reffrom_any (w : World) (a : Option Addr) (c : Nat) (ts : List ByteArray) (hT : Texts w a ts) (lim : Int) (h63 : ts.length ≤ 60000) :
    Calls Tryd.prog 11 #[.slice a ts.length c, .int .i64 lim] w fun e w' => ∃ v, e = .returned (.tuple #[v, .bool (fromB ts lim)]) ∧ New w w' := by
  have HT : Hid (Texts w a ts) := hT
  clear hT
  by_cases h1 : 1 ≤ lim ∧ lim ≤ 200
  · have hn := refnew_yes w lim h1.1 h1.2
    by_cases h2 : (ts.length : Int) ≤ lim
    · have hB := fromB_eq h1 h2
      have HB : Hid (fromB ts lim = ts.all fun t => t.size == 256) := hB
      have h1a := h1.1
      have h1b := h1.2
      obtain ⟨n, hnn⟩ : ∃ n, ts.length = n := ⟨_, rfl⟩
      have HN : Hid (ts.length = n) := hnn
      rw [hnn] at h2 h63 ⊢
      generalize fromB ts lim = B at HB ⊢
      clear h1 hB hnn
      go_enter Tryd.func11, Tryd.ntmps11
      go_wp2_with fail
      refine hn.mono ?_
      rintro _ w1 ⟨rfl, N1, R1⟩
      clear hn
      go_wp2_with fail
      go_loopw [8] (fun u wr => ∃ i : Nat, u = .int .i64 (i : Int) ∧ i ≤ n ∧ wr = w1 ∧ ∀ j, j < i → (ts.getD j ⟨#[]⟩).size = 256) (fun u _ => n - (intOf u).toNat)
      case atStart => exact ⟨0, rfl, by omega, by trivial, fun j hj => by omega⟩
      case round =>
        obtain ⟨i, rfl, hi, rfl, hall⟩ := hrel
        have HL : Hid (∀ j, j < i → (ts.getD j ⟨#[]⟩).size = 256) := hall
        clear hall
        by_cases hin : i < n
        · have hin' : (i : Int) < (n : Int) := by omega
          obtain ⟨x, rfl, hx⟩ := (HT.out.after N1) (by have := HN.out; omega)
          have hx0 := hx i (by have := HN.out; omega)
          obtain ⟨s, hs⟩ : ∃ s, ts.getD i ⟨#[]⟩ = s := ⟨_, rfl⟩
          have HS : Hid (ts.getD i ⟨#[]⟩ = s) := hs
          rw [hs] at hx0
          clear hx hs
          by_cases h256 : s.size = 256
          · have h256' : (s.size : Int) = 256 := by omega
            go_wp2_with fail
            refine ⟨⟨i + 1, by go_num, by omega, by trivial, fun j hj => ?_⟩, by simp [intOf]; omega⟩
            by_cases hji : j = i
            · subst hji; rw [HS.out]; exact h256
            · exact HL.out j (by omega)
          · have h256' : ¬ (s.size : Int) = 256 := by omega
            have HF : Hid (B = false) := by
              show B = false
              rw [HB.out, List.all_eq_false]
              refine ⟨s, ?_, by simpa using h256⟩
              rw [← HS.out, List.getD_eq_getElem?_getD, List.getElem?_eq_getElem (by have := HN.out; omega)]
              exact List.getElem_mem _
            go_wp2_with fail
            go_ret2
            exact ⟨_, by rw [HF.out]; rfl, N1⟩
        · obtain rfl : i = n := by omega
          have HF : Hid (B = true) := by
            show B = true
            rw [HB.out, List.all_eq_true]
            intro t ht
            obtain ⟨j, hj, rfl⟩ := List.mem_iff_getElem.1 ht
            have := HL.out j (by have := HN.out; omega)
            rw [List.getD_eq_getElem?_getD, List.getElem?_eq_getElem hj] at this
            simpa using this
          obtain ⟨v, W, hr, hP, hN⟩ := run_copied wr 28 9 28 (.string ⟨#[]⟩) 16 Tryd.underlying28 info9 rfl (by decide) a c (ts.map Value.string) (texts_cells (HT.out.after N1)) (fun u hu => by obtain ⟨t, _, rfl⟩ := List.mem_map.1 hu; rfl) (by rw [List.length_map]; have := HN.out; omega)
          rw [List.length_map, HN.out] at hr
          have hcell : W.cell? ⟨w.heap.size, 1, none⟩ = some (.slice none 0 0) := (R1.after hN).cell 1
          have hfr := (R1.after hN).frozen 1
          have HW : Hid (New w W) := N1.trans hN
          have hsz : w.heap.size ≤ w.heap.size := Nat.le_refl _
          obtain ⟨a', c', rfl, _⟩ := hP.form
          clear hP R1
          go_wp2_with (refine wpList_appends (by rfl) _ _ 28 28 _ _ _ W (by rfl) (by rfl) (by rfl) (by rfl) hr ?_)
          go_ret2
          exact ⟨_, by rw [HF.out]; rfl, HW.out.setCell (Nat.le_refl _) _⟩
    · have HF : Hid (fromB ts lim = false) := by
        show fromB ts lim = false
        unfold fromB
        rw [decide_eq_false (by omega)]; rfl
      have h2' : lim < (ts.length : Int) := by omega
      generalize fromB ts lim = B at HF ⊢
      go_enter Tryd.func11, Tryd.ntmps11
      go_wp2_with fail
      refine hn.mono ?_
      rintro _ w1 ⟨rfl, N1, R1⟩
      clear hn R1
      go_wp2_with fail
      go_ret2
      exact ⟨_, by rw [HF.out]; rfl, N1⟩
  · have hn := refnew_no w lim h1
    have HF : Hid (fromB ts lim = false) := by
      show fromB ts lim = false
      unfold fromB
      rw [decide_eq_false (by omega)]; rfl
    generalize fromB ts lim = B at HF ⊢
    clear h1
    go_enter Tryd.func11, Tryd.ntmps11
    go_wp2_with fail
    refine hn.mono ?_
    rintro _ w1 ⟨rfl, rfl⟩
    clear hn
    go_wp2_with fail
    go_ret2
    exact ⟨_, by rw [HF.out]; rfl, New.refl _⟩

end Go.Proofs.YtkcoclpbkealgaaDoor
namespace Go.Proofs.YtkcoclpbkealgaaDoor
open Go.RowKit
set_option maxRecDepth 20000

structure Rd (w : World) (F : Nat → Prop) (p : Nat) (S : St) : Prop where
  ok : Ok S
  base : F p
  inside : ∀ b, F b → b < w.heap.size
  has : ∃ v1 v2, Row w p #[.int .i64 (S.lim : Int), v1, v2, .int .i64 S.fuse, .bool S.down] 63 ∧ Pl w (fun g => F g ∧ g ≠ p) 9 1 v1 (S.ps.map textL) ∧ Pl w (fun g => F g ∧ g ≠ p ∧ v1.ownBlock ≠ some g) 76 2 v2 (S.ws.map tellL)

theorem Rd.of {w w' : World} {F : Nat → Prop} {p : Nat} {S : St} (h : Rd w F p S) (e : ∀ b, F b → w'.heap[b]? = w.heap[b]?) (hs : w.heap.size ≤ w'.heap.size) : Rd w' F p S := by
  obtain ⟨v1, v2, R, h1, h2⟩ := h.has
  exact ⟨h.ok, h.base, fun b hb => Nat.lt_of_lt_of_le (h.inside b hb) hs, v1, v2, R.of (e p h.base), h1.of (fun b hb _ => e b hb.1) (fun _ h _ => h), h2.of (fun b hb _ => e b hb.1) (fun _ h _ => h)⟩

theorem Rd.after {w w' : World} {F : Nat → Prop} {p : Nat} {S : St} (h : Rd w F p S) (n : New w w') : Rd w' F p S := h.of (fun b hb => n.block b (h.inside b hb)) n.size

theorem Rd.apart {w w' : World} {F G G' : Nat → Prop} {p : Nat} {S : St} (h : Rd w F p S) (k : Step G G' w w') (hd : ∀ b, F b → ¬ G b) : Rd w' F p S := h.of (fun b hb => k.block b (h.inside b hb) (hd b hb)) k.size

theorem Rd.lt {w : World} {F : Nat → Prop} {p : Nat} {S : St} (h : Rd w F p S) : p < w.heap.size := h.inside p h.base

theorem Rd.fuse {w : World} {F : Nat → Prop} {p : Nat} {S : St} (h : Rd w F p S) (n : Int) (h1 : -9223372036854775808 ≤ n) (h2 : n ≤ 9223372036854775807) : Rd (w.setCell ⟨p, 3, none⟩ (.int .i64 n)) F p { S with fuse := n } := by
  obtain ⟨v1, v2, R, r1, r2⟩ := h.has
  have e : ∀ b, b ≠ p → (w.setCell ⟨p, 3, none⟩ (.int .i64 n)).heap[b]? = w.heap[b]? := fun b hb => Below.heap_setCell _ _ _ _ hb
  exact ⟨⟨h.ok.page, h.ok.wait, h.ok.lim, h.ok.len, h.ok.few, h1, h2⟩, h.base, fun b hb => by simpa [World.setCell] using h.inside b hb, v1, v2, R.set 3 _, r1.of (fun b hb _ => e b hb.2) (fun _ h _ => h), r2.of (fun b hb _ => e b hb.2.1) (fun _ h _ => h)⟩

theorem Rd.down {w : World} {F : Nat → Prop} {p : Nat} {S : St} (h : Rd w F p S) (d : Bool) : Rd (w.setCell ⟨p, 4, none⟩ (.bool d)) F p { S with down := d } := by
  obtain ⟨v1, v2, R, r1, r2⟩ := h.has
  have e : ∀ b, b ≠ p → (w.setCell ⟨p, 4, none⟩ (.bool d)).heap[b]? = w.heap[b]? := fun b hb => Below.heap_setCell _ _ _ _ hb
  exact ⟨⟨h.ok.page, h.ok.wait, h.ok.lim, h.ok.len, h.ok.few, h.ok.lo, h.ok.hi⟩, h.base, fun b hb => by simpa [World.setCell] using h.inside b hb, v1, v2, R.set 4 _, r1.of (fun b hb _ => e b hb.2) (fun _ h _ => h), r2.of (fun b hb _ => e b hb.2.1) (fun _ h _ => h)⟩

theorem Rd.open {w : World} {F : Nat → Prop} {p : Nat} {S : St} (D : Rd w F p S) : ∃ a1 c1 a2 c2,
    w.cell? ⟨p, 0, none⟩ = some (.int .i64 (S.lim : Int)) ∧ w.cell? ⟨p, 1, none⟩ = some (.slice a1 S.ps.length c1) ∧ w.cell? ⟨p, 2, none⟩ = some (.slice a2 S.ws.length c2) ∧ w.cell? ⟨p, 3, none⟩ = some (.int .i64 S.fuse) ∧ w.cell? ⟨p, 4, none⟩ = some (.bool S.down) ∧
    (∀ i, w.frozen? ⟨p, i, none⟩ = false) ∧ Row w p #[.int .i64 (S.lim : Int), .slice a1 S.ps.length c1, .slice a2 S.ws.length c2, .int .i64 S.fuse, .bool S.down] 63 ∧
    Pl w (fun g => F g ∧ g ≠ p) 9 1 (.slice a1 S.ps.length c1) (S.ps.map textL) ∧ Pl w (fun g => F g ∧ g ≠ p ∧ (Value.slice a1 S.ps.length c1).ownBlock ≠ some g) 76 2 (.slice a2 S.ws.length c2) (S.ws.map tellL) := by
  obtain ⟨v1, v2, R, h1, h2⟩ := D.has
  obtain ⟨a1, c1, rfl, _⟩ := h1.form
  obtain ⟨a2, c2, rfl, _⟩ := h2.form
  simp only [List.length_map] at R h1 h2
  refine ⟨a1, c1, a2, c2, ?_, ?_, ?_, ?_, ?_, R.frozen, R, h1, h2⟩ <;> (rw [R.cell]; rfl)

theorem Rd.build {w w' : World} {F G1 G2 : Nat → Prop} {p : Nat} {S : St} {v1 v2 : Value} (hp : F p) (hok : Ok S) (R : Row w' p #[.int .i64 (S.lim : Int), v1, v2, .int .i64 S.fuse, .bool S.down] 63)
    (P1 : Pl w' G1 9 1 v1 (S.ps.map textL)) (P2 : Pl w' G2 76 2 v2 (S.ws.map tellL)) (h1 : ∀ g, v1.ownBlock = some g → (F g ∨ w.heap.size ≤ g) ∧ g ≠ p) (h2 : ∀ g, v2.ownBlock = some g → (F g ∨ w.heap.size ≤ g) ∧ g ≠ p ∧ v1.ownBlock ≠ some g) :
    Rd w' (Wide F w w') p S :=
  ⟨hok, ⟨.inl hp, R.lt⟩, fun _ hb => hb.2, v1, v2, R, P1.refoot fun g hg => ⟨⟨(h1 g hg).1, P1.lt hg⟩, (h1 g hg).2⟩, P2.refoot fun g hg => ⟨⟨(h2 g hg).1, P2.lt hg⟩, (h2 g hg).2⟩⟩

def RLeft (F : Nat → Prop) (p : Nat) (w : World) (S : St) (w' : World) : Prop := ∃ F', Rd w' F' p S ∧ Step F F' w w'

theorem RLeft.refl {w : World} {F : Nat → Prop} {p : Nat} {S : St} (D : Rd w F p S) : RLeft F p w S w := ⟨F, D, Step.refl F w⟩

theorem Rd.addWait {w0 w W2 W3 : World} {F : Nat → Prop} {p : Nat} {S : St} {a1 a2 : Option Addr} {c1 c2 g3 m cap3 : Nat} {n : Nat} {l : List UInt8} (S0 : Step F F w0 w) (D : Rd w F p S)
    (R : Row w p #[.int .i64 (S.lim : Int), .slice a1 S.ps.length c1, .slice a2 S.ws.length c2, .int .i64 S.fuse, .bool S.down] 63)
    (P1 : Pl w (fun g => F g ∧ g ≠ p) 9 1 (.slice a1 S.ps.length c1) (S.ps.map textL)) (P2 : Pl w (fun g => F g ∧ g ≠ p ∧ (Value.slice a1 S.ps.length c1).ownBlock ≠ some g) 76 2 (.slice a2 S.ws.length c2) (S.ws.map tellL))
    (M2 : New w W2) (G3 : W2.grownBy W3 (Value.slice a2 S.ws.length c2).ownBlock) (Q3 : Pl W3 (fun b => (F b ∧ b ≠ p ∧ (Value.slice a1 S.ps.length c1).ownBlock ≠ some b) ∨ W2.heap.size ≤ b) 76 2 (.slice (some ⟨g3, 0, none⟩) m cap3) (S.ws.map tellL ++ [tellL (n, l)]))
    (hn : n < S.ps.length) (hl : l.length = 256) (hfew : S.ws.length < 1000) : RLeft F p w0 { S with ws := S.ws ++ [(n, l)] } (W3.setCell ⟨p, 2, none⟩ (.slice (some ⟨g3, 0, none⟩) m cap3)) := by
  have hpl := D.lt
  have hsz := M2.size
  have hR3 : Row W3 p _ 63 := (R.after M2).of (G3.block p (Nat.lt_of_lt_of_le hpl hsz) (fun e => (P2.foot p e.symm).2.1 rfl))
  have hg3 : g3 ≠ p ∧ (Value.slice a1 S.ps.length c1).ownBlock ≠ some g3 ∧ (F g3 ∨ w.heap.size ≤ g3) := by
    rcases Q3.foot g3 rfl with ⟨h1, h2, h3⟩ | h
    · exact ⟨h2, h3, .inl h1⟩
    · refine ⟨by omega, fun e => ?_, .inr (by omega)⟩
      have := P1.lt e
      omega
  have e : ∀ b, b ≠ p → (W3.setCell ⟨p, 2, none⟩ (.slice (some ⟨g3, 0, none⟩) m cap3)).heap[b]? = W3.heap[b]? := fun b hb => Below.heap_setCell _ _ _ _ hb
  refine ⟨Wide F w0 (W3.setCell ⟨p, 2, none⟩ (.slice (some ⟨g3, 0, none⟩) m cap3)), Rd.build (F := F) (w := w0) (v1 := .slice a1 S.ps.length c1) (v2 := .slice (some ⟨g3, 0, none⟩) m cap3) (G1 := fun g => (Value.slice a1 S.ps.length c1).ownBlock = some g) (G2 := fun g => g = g3) D.base ⟨D.ok.page, ?_, D.ok.lim, D.ok.len, ?_, D.ok.lo, D.ok.hi⟩ (hR3.set 2 _) ?_ ?_ ?_ ?_, ?_⟩
  · intro x hx
    rcases List.mem_append.1 hx with h | h
    · exact D.ok.wait x h
    · obtain rfl : x = (n, l) := by simpa using h
      exact ⟨hn, hl⟩
  · show (S.ws ++ [(n, l)]).length ≤ 1000
    rw [List.length_append, List.length_singleton]; omega
  · exact ((P1.refoot (G := fun g => (Value.slice a1 S.ps.length c1).ownBlock = some g) fun _ h => h).after M2).of (fun b hb hlt => (e b (P1.foot b hb).2).trans (G3.block b hlt fun h => (P2.foot b h.symm).2.2 hb)) (fun _ h _ => h)
  · show Pl _ _ 76 2 _ ((S.ws ++ [(n, l)]).map tellL)
    rw [List.map_append]
    exact (Q3.refoot (G := fun g => g = g3) fun g hg => by cases hg; rfl).of (fun b hb _ => e b (hb ▸ hg3.1)) (fun _ h _ => h)
  · exact fun g hg => ⟨.inl (P1.foot g hg).1, (P1.foot g hg).2⟩
  · intro g hg
    obtain rfl : g3 = g := by cases hg; rfl
    exact ⟨hg3.2.2.imp id fun h => Nat.le_trans S0.size h, hg3.1, hg3.2.1⟩
  · exact (((S0.trans (Step.new M2)).trans (Step.grown G3 fun k hk => (P2.foot k hk).1)).trans (Step.setCell W3 D.base _)).widen

theorem Rd.addPage {w0 w W2 W3 : World} {F F0 : Nat → Prop} {p : Nat} {S : St} {v1 v2 : Value} {g3 m cap3 : Nat} {q : List UInt8} (S0 : Step F0 F w0 w) (h0 : F0 p) (D : Rd w F p S)
    (R : Row w p #[.int .i64 (S.lim : Int), v1, v2, .int .i64 S.fuse, .bool S.down] 63)
    (P2 : Pl w (fun g => F g ∧ g ≠ p ∧ v1.ownBlock ≠ some g) 76 2 v2 (S.ws.map tellL)) (P1 : Pl w (fun g => F g ∧ g ≠ p ∧ v2.ownBlock ≠ some g) 9 1 v1 (S.ps.map textL))
    (M2 : New w W2) (G3 : W2.grownBy W3 v1.ownBlock) (Q3 : Pl W3 (fun b => (F b ∧ b ≠ p ∧ v2.ownBlock ≠ some b) ∨ W2.heap.size ≤ b) 9 1 (.slice (some ⟨g3, 0, none⟩) m cap3) (S.ps.map textL ++ [textL q]))
    (hl : q.length = 256) (hlim : S.ps.length < S.lim) : RLeft F0 p w0 { S with ps := S.ps ++ [q] } (W3.setCell ⟨p, 1, none⟩ (.slice (some ⟨g3, 0, none⟩) m cap3)) := by
  have hpl := D.lt
  have hsz := M2.size
  have hR3 : Row W3 p _ 63 := (R.after M2).of (G3.block p (Nat.lt_of_lt_of_le hpl hsz) (fun e => (P1.foot p e.symm).2.1 rfl))
  have hg3 : g3 ≠ p ∧ v2.ownBlock ≠ some g3 ∧ (F g3 ∨ w.heap.size ≤ g3) := by
    rcases Q3.foot g3 rfl with ⟨h1, h2, h3⟩ | h
    · exact ⟨h2, h3, .inl h1⟩
    · refine ⟨by omega, fun e => ?_, .inr (by omega)⟩
      have := P2.lt e
      omega
  have e : ∀ b, b ≠ p → (W3.setCell ⟨p, 1, none⟩ (.slice (some ⟨g3, 0, none⟩) m cap3)).heap[b]? = W3.heap[b]? := fun b hb => Below.heap_setCell _ _ _ _ hb
  have hF : ∀ g, F g ∨ w.heap.size ≤ g → F0 g ∨ w0.heap.size ≤ g := fun g h => by
    rcases h with h | h
    · exact S0.foot g h
    · exact .inr (Nat.le_trans S0.size h)
  refine ⟨Wide F0 w0 (W3.setCell ⟨p, 1, none⟩ (.slice (some ⟨g3, 0, none⟩) m cap3)), Rd.build (F := F0) (w := w0) (v1 := .slice (some ⟨g3, 0, none⟩) m cap3) (v2 := v2) (G1 := fun g => g = g3) (G2 := fun g => v2.ownBlock = some g) h0 ⟨?_, ?_, D.ok.lim, ?_, D.ok.few, D.ok.lo, D.ok.hi⟩ (hR3.set 1 _) ?_ ?_ ?_ ?_, ?_⟩
  · intro x hx
    rcases List.mem_append.1 hx with h | h
    · exact D.ok.page x h
    · obtain rfl : x = q := by simpa using h
      exact hl
  · intro x hx
    have := D.ok.wait x hx
    exact ⟨by show x.1 < (S.ps ++ [q]).length; rw [List.length_append]; omega, this.2⟩
  · show (S.ps ++ [q]).length ≤ S.lim
    rw [List.length_append, List.length_singleton]; omega
  · show Pl _ _ 9 1 _ ((S.ps ++ [q]).map textL)
    rw [List.map_append]
    exact (Q3.refoot (G := fun g => g = g3) fun g hg => by cases hg; rfl).of (fun b hb _ => e b (hb ▸ hg3.1)) (fun _ h _ => h)
  · exact ((P2.refoot (G := fun g => v2.ownBlock = some g) fun _ h => h).after M2).of (fun b hb hlt => (e b (P2.foot b hb).2.1).trans (G3.block b hlt fun h => (P1.foot b h.symm).2.2 hb)) (fun _ h _ => h)
  · intro g hg
    obtain rfl : g3 = g := by cases hg; rfl
    exact ⟨hF _ hg3.2.2, hg3.1⟩
  · intro g hg
    refine ⟨hF _ (.inl (P2.foot g hg).1), (P2.foot g hg).2.1, fun h => ?_⟩
    have : g3 = g := by cases h; rfl
    exact hg3.2.1 (this ▸ hg)
  · exact (((S0.trans (Step.new M2)).trans (Step.grown G3 fun k hk => (P1.foot k hk).1)).trans (Step.setCell W3 (a := ⟨p, 1, none⟩) D.base _)).widen

theorem Rd.turned {w : World} {F : Nat → Prop} {p : Nat} {v1 v2 : Value} {es1 es2 : List (List Value)} (P1 : Pl w (fun g => F g ∧ g ≠ p) 9 1 v1 es1) (P2 : Pl w (fun g => F g ∧ g ≠ p ∧ v1.ownBlock ≠ some g) 76 2 v2 es2) :
    Pl w (fun g => F g ∧ g ≠ p ∧ v2.ownBlock ≠ some g) 9 1 v1 es1 := P1.refoot fun g hg => ⟨(P1.foot g hg).1, (P1.foot g hg).2, fun h => (P2.foot g h).2.2 hg⟩

theorem Rd.noWait {w : World} {F : Nat → Prop} {p : Nat} {S : St} (h : Rd w F p S) : Rd (w.setCell ⟨p, 2, none⟩ (.slice none 0 0)) F p { S with ws := [] } := by
  obtain ⟨v1, v2, R, r1, r2⟩ := h.has
  have e : ∀ b, b ≠ p → (w.setCell ⟨p, 2, none⟩ (.slice none 0 0)).heap[b]? = w.heap[b]? := fun b hb => Below.heap_setCell _ _ _ _ hb
  exact ⟨⟨h.ok.page, (by intro x hx; cases hx), h.ok.lim, h.ok.len, Nat.zero_le _, h.ok.lo, h.ok.hi⟩, h.base, fun b hb => by simpa [World.setCell] using h.inside b hb, v1, .slice none 0 0, R.set 2 _, r1.of (fun b hb _ => e b hb.2) (fun _ h _ => h), Pl.nil _ _ _ _⟩

theorem Rd.setPage {w W5 W6 : World} {F : Nat → Prop} {p g n c i : Nat} {S : St} {v2 : Value} {q : List UInt8} (D : Rd w F p S) (R : Row w p #[.int .i64 (S.lim : Int), .slice (some ⟨g, 0, none⟩) n c, v2, .int .i64 S.fuse, .bool S.down] 63)
    (P2 : Pl w (fun b => F b ∧ b ≠ p ∧ (Value.slice (some ⟨g, 0, none⟩) n c).ownBlock ≠ some b) 76 2 v2 (S.ws.map tellL)) (N : New w W5) (B : But g W5 W6) (hg : F g ∧ g ≠ p)
    (Q : Pl W6 (fun b => F b ∧ b ≠ p) 9 1 (.slice (some ⟨g, 0, none⟩) n c) ((S.ps.map textL).set i (textL q))) (hq : q.length = 256) : Rd W6 F p { S with ps := S.ps.set i q } ∧ Step F F w W6 := by
  refine ⟨⟨⟨?_, ?_, D.ok.lim, ?_, D.ok.few, D.ok.lo, D.ok.hi⟩, D.base, fun b hb => ?_, .slice (some ⟨g, 0, none⟩) n c, v2, (R.after N).of (B.block p (Ne.symm hg.2)), ?_, ?_⟩, (Step.new N).trans (B.step hg.1)⟩
  · exact set_all (P := fun l => l.length = 256) D.ok.page hq
  · intro x hx
    have := D.ok.wait x hx
    exact ⟨by show x.1 < (S.ps.set i q).length; rw [List.length_set]; exact this.1, this.2⟩
  · show (S.ps.set i q).length ≤ S.lim
    rw [List.length_set]; exact D.ok.len
  · rw [B.size]; exact Nat.lt_of_lt_of_le (D.inside b hb) N.size
  · show Pl _ _ 9 1 _ ((S.ps.set i q).map textL)
    rw [List.map_set]; exact Q
  · exact (P2.after N).of (fun b hb _ => B.block b (fun e => hb.2.2 (by rw [e]; rfl))) (fun _ h _ => h)

end Go.Proofs.YtkcoclpbkealgaaDoor
namespace Go.Proofs.YtkcoclpbkealgaaDoor
open Go.RowKit
set_option maxRecDepth 20000

theorem Pl.text {w : World} {F : Nat → Prop} {g n c : Nat} {ps : List (List UInt8)} (h : Pl w F 9 1 (.slice (some ⟨g, 0, none⟩) n c) (ps.map textL)) {i : Nat} (hi : i < ps.length) : w.cell? ⟨g, i, none⟩ = some (.string (bs (ps.getD i []))) := by
  have hr := h.range (i := i) (by rw [List.length_map]; exact hi)
  have := hr 0 (.string (bs (ps.getD i []))) (by rw [List.getElem_map, List.getD_eq_getElem?_getD, List.getElem?_eq_getElem hi]; rfl)
  rw [Nat.mul_one, Nat.add_zero] at this
  exact this
theorem Pl.tell {w : World} {F : Nat → Prop} {g n c : Nat} {ws : List (Nat × List UInt8)} (h : Pl w F 76 2 (.slice (some ⟨g, 0, none⟩) n c) (ws.map tellL)) {i : Nat} (hi : i < ws.length) :
    w.cell? ⟨g, i * 2, none⟩ = some (.int .i64 ((ws.getD i (0, [])).1 : Int)) ∧ w.cell? ⟨g, i * 2 + 1, none⟩ = some (.string (bs (ws.getD i (0, [])).2)) := by
  have hr := h.range (i := i) (by rw [List.length_map]; exact hi)
  have h0 := hr 0 (.int .i64 ((ws.getD i (0, [])).1 : Int)) (by rw [List.getElem_map, List.getD_eq_getElem?_getD, List.getElem?_eq_getElem hi]; rfl)
  have h1 := hr 1 (.string (bs (ws.getD i (0, [])).2)) (by rw [List.getElem_map, List.getD_eq_getElem?_getD, List.getElem?_eq_getElem hi]; rfl)
  rw [Nat.add_zero] at h0
  exact ⟨h0, h1⟩
theorem latestN_at (ps : List (List UInt8)) (ws : List (Nat × List UInt8)) {k : Nat} (hk : k < ps.length) (i : Nat) : (latestN ps ws (i + 1)).getD k [] = if (ws.getD i (0, [])).1 = k then (ws.getD i (0, [])).2 else (latestN ps ws i).getD k [] := by
  rw [latestN]
  split
  · rename_i h
    rw [h, List.getD_eq_getElem?_getD, List.getElem?_set_self (by rw [latestN_length]; exact hk)]; rfl
  · rename_i h
    rw [List.getD_eq_getElem?_getD, List.getElem?_set_ne h, List.getD_eq_getElem?_getD]

theorem refact_any {w : World} {F : Nat → Prop} {p : Nat} {S : St} (D : Rd w F p S) : Calls Tryd.prog 72 #[.pointer (some ⟨p, 0, none⟩)] w fun e w' => e = .returned (.int .i64 (if S.fuse = 0 then 2 else 0)) ∧ Rd w' F p (if S.fuse = 0 then S.dead else S.burn) ∧ Step F F w w' := by
  obtain ⟨a1, c1, a2, c2, h0, h1, h2, h3, h4, hf, _⟩ := D.open
  have HD : Hid (Rd w F p S) := D
  have h0' := D.ok.lo
  have h1' := D.ok.hi
  clear D
  by_cases hz : S.fuse = 0
  · rw [hz] at h3
    go_enter Tryd.func72, Tryd.ntmps72
    go_wp2_with fail
    go_ret
    exact ⟨rfl, HD.out.down true, Step.setCell _ HD.out.base _⟩
  · by_cases hp : 0 < S.fuse
    · have hw : IntKind.i64.wrap (S.fuse - 1) = S.fuse - 1 := by rw [IntKind.wrap_i64]; omega
      go_enter Tryd.func72, Tryd.ntmps72
      go_wp2_with fail
      go_ret
      refine ⟨rfl, ?_, Step.setCell _ HD.out.base _⟩
      unfold St.burn
      rw [if_pos hp]
      exact HD.out.fuse _ (by omega) (by omega)
    · go_enter Tryd.func72, Tryd.ntmps72
      go_wp2_with fail
      go_ret
      refine ⟨rfl, ?_, Step.refl _ _⟩
      unfold St.burn
      rw [if_neg (by omega)]
      exact HD.out

/-- The fuse that is kept. -/
def St.refFuse (S : St) (n : Int) : St := { S with fuse := if n > -1 then n else -1 }
theorem wpList_max {P : Program} {w : World} {ops : Array Oper} {rest : List Oper} {o : Oper} {a : Act} {Q : Exit → Act → World → Prop} (hgd : o.guard = none) (s t : Operand) (ho : o.op = .call { callee := .builtin .max, args := #[s, t], argTypes := #[3, 3] }) (x y k : Int) (hx : a.eval s = .int .i64 x) (hy : a.eval t = .int .i64 y)
    (hk : (if y > x then y else x) = k) (h : wpList P ops Q rest (a.put o.dst (.int .i64 k)) w) : wpList P ops Q (o :: rest) a w := by
  refine wpList_run hgd _ w ?_ h
  unfold execOp
  simp only [ho, resolve, invoke, builtin, Sem.run_bind, Sem.run_pure, Result.andThen_ok, List.map_toArray, List.map_cons, List.map_nil, hx, hy, run_max_int2, hk]
theorem reffuse_any {w : World} {F : Nat → Prop} {p : Nat} {S : St} (D : Rd w F p S) (n : Int) (hn2 : n ≤ 9223372036854775807) :
    Calls Tryd.prog 24 #[.pointer (some ⟨p, 0, none⟩), .int .i64 n] w fun e w' => e = .returned (.tuple #[]) ∧ Rd w' F p (S.refFuse n) ∧ Step F F w w' := by
  obtain ⟨a1, c1, a2, c2, h0, h1, h2, h3, h4, hf, _⟩ := D.open
  obtain ⟨k, hk, hk1, hk2⟩ : ∃ k, (if n > -1 then n else -1) = k ∧ -1 ≤ k ∧ k ≤ 9223372036854775807 := ⟨_, rfl, by split <;> omega, by split <;> omega⟩
  have f3 := hf 3
  have HD : Hid (Rd w F p S ∧ S.refFuse n = { S with fuse := k }) := ⟨D, by unfold St.refFuse; rw [hk]⟩
  clear D hf
  generalize S.refFuse n = R at HD ⊢
  go_enter Tryd.func24, Tryd.ntmps24
  go_wp2_with (refine wpList_max (by rfl) _ _ (by rfl) (-1) n k (by rfl) (by rfl) hk ?_)
  go_end0
  refine ⟨rfl, ?_, Step.setCell _ HD.out.1.base _⟩
  rw [HD.out.2]
  exact HD.out.1.fuse _ (by omega) hk2

set_option maxRecDepth 20000 in
set_option maxHeartbeats 2000000 in
theorem refat_any {w : World} {F : Nat → Prop} {p : Nat} {S : St} (D : Rd w F p S) (k : Nat) (hk : k < S.ps.length) :
    Calls Tryd.prog 59 #[.pointer (some ⟨p, 0, none⟩), .int .i64 (k : Int)] w fun e w' => e = .returned (.string (bs ((latest S.ps S.ws).getD k []))) ∧ w' = w := by
  obtain ⟨a1, c1, a2, c2, h0, h1, h2, h3, h4, hf, R, P1, P2⟩ := D.open
  obtain ⟨g1, _, e1, _⟩ := P1.full (by rw [List.length_map]; omega)
  rw [List.length_map] at e1
  cases e1
  have hx := P1.text hk
  have hfew := D.ok.few
  have HP : Hid (Pl w (fun g => F g ∧ g ≠ p ∧ (Value.slice (some ⟨g1, 0, none⟩) S.ps.length c1).ownBlock ≠ some g) 76 2 (.slice a2 S.ws.length c2) (S.ws.map tellL)) := P2
  have HL : Hid (∀ i, (latestN S.ps S.ws (i + 1)).getD k [] = if (S.ws.getD i (0, [])).1 = k then (S.ws.getD i (0, [])).2 else (latestN S.ps S.ws i).getD k []) := latestN_at S.ps S.ws hk
  obtain ⟨s0, hs0⟩ : ∃ s0, S.ps.getD k [] = s0 := ⟨_, rfl⟩
  rw [hs0] at hx
  have HZ : Hid ((latestN S.ps S.ws 0).getD k [] = s0) := hs0
  clear hs0
  have HE : Hid (latest S.ps S.ws = latestN S.ps S.ws S.ws.length) := rfl
  have hk' : (k : Int) < (S.ps.length : Int) := by omega
  clear D R P1 P2 hf
  generalize latest S.ps S.ws = lt at HE ⊢
  go_enter Tryd.func59, Tryd.ntmps59
  go_wp2_with fail
  go_loopw [5, 6] (fun u v wr => ∃ i : Nat, u = .string (bs ((latestN S.ps S.ws i).getD k [])) ∧ v = .int .i64 (i : Int) ∧ i ≤ S.ws.length ∧ wr = w) (fun _ v _ => S.ws.length - (intOf v).toNat)
  case atStart => exact ⟨0, by rw [HZ.out], rfl, by omega, by trivial⟩
  case round =>
    obtain ⟨i, rfl, rfl, hi, rfl⟩ := hrel
    by_cases hin : i < S.ws.length
    · have hin' : (i : Int) < (S.ws.length : Int) := by omega
      have hl := HL.out i
      have P2 := HP.out
      obtain ⟨g2, _, e2, _⟩ := P2.full (by rw [List.length_map]; omega)
      rw [List.length_map] at e2
      cases e2
      obtain ⟨hy0, hy1⟩ := P2.tell hin
      generalize S.ws.getD i (0, []) = x at hl hy0 hy1
      obtain ⟨xa, xd⟩ := x
      simp only at hl hy0 hy1
      clear P2
      by_cases he : xa = k
      · rw [if_pos he] at hl
        subst he
        have HH : Hid ((latestN S.ps S.ws (i + 1)).getD xa [] = xd) := hl
        clear hl
        go_wp2_with fail
        exact ⟨⟨i + 1, by rw [HH.out], by go_num, by omega, by trivial⟩, by simp [intOf]; omega⟩
      · rw [if_neg he] at hl
        have he' : ¬ (xa : Int) = (k : Int) := by omega
        have HH : Hid ((latestN S.ps S.ws (i + 1)).getD k [] = (latestN S.ps S.ws i).getD k []) := hl
        clear hl
        go_wp2_with fail
        exact ⟨⟨i + 1, by rw [HH.out], by go_num, by omega, by trivial⟩, by simp [intOf]; omega⟩
    · obtain rfl : i = S.ws.length := by omega
      go_wp2_with fail
      go_ret
      exact ⟨by rw [HE.out]; rfl, rfl⟩

theorem refread_any {w : World} {F : Nat → Prop} {p : Nat} {S : St} (D : Rd w F p S) (at_ : Int) :
    Calls Tryd.prog 45 #[.pointer (some ⟨p, 0, none⟩), .int .i64 at_] w fun e w' => e = .returned (.tuple #[.string (bs (S.read at_).2), .int .i64 (S.read at_).1]) ∧ w' = w := by
  obtain ⟨a1, c1, a2, c2, h0, h1, h2, h3, h4, hf, _⟩ := D.open
  have HR : Hid (S.read at_ = if S.down then (2, []) else if ¬ (0 ≤ at_ ∧ at_ < S.ps.length) then (4, []) else (0, (latest S.ps S.ws).getD at_.toNat [])) := rfl
  generalize S.read at_ = r at HR ⊢
  cases hd : S.down
  · rw [hd] at h4
    rw [hd, if_neg (by simp)] at HR
    by_cases hin : 0 ≤ at_ ∧ at_ < S.ps.length
    · rw [if_neg (by simpa using hin)] at HR
      obtain ⟨k, rfl⟩ : ∃ k : Nat, at_ = (k : Int) := ⟨at_.toNat, by omega⟩
      have hr := refat_any D k (by omega)
      rw [Int.toNat_natCast] at HR
      have hk1 : ¬ (k : Int) < 0 := by omega
      have hk2 : (k : Int) < (S.ps.length : Int) := hin.2
      have hk3 : ¬ (S.ps.length : Int) ≤ (k : Int) := by omega
      clear D hin hf
      go_enter Tryd.func45, Tryd.ntmps45
      go_wp2_with fail
      refine hr.mono ?_
      rintro _ w1 ⟨rfl, rfl⟩
      go_wp2_with fail
      go_ret2
      exact ⟨by rw [HR.out]; rfl, rfl⟩
    · rw [if_pos (by simpa using hin)] at HR
      by_cases hlo : at_ < 0
      · clear D hin hf
        go_enter Tryd.func45, Tryd.ntmps45
        go_wp2_with fail
        go_ret2
        exact ⟨by rw [HR.out]; rfl, rfl⟩
      · have hhi : (S.ps.length : Int) ≤ at_ := by omega
        clear D hin hf
        go_enter Tryd.func45, Tryd.ntmps45
        go_wp2_with fail
        go_ret2
        exact ⟨by rw [HR.out]; rfl, rfl⟩
  · rw [hd] at h4
    rw [hd, if_pos rfl] at HR
    clear D hf
    go_enter Tryd.func45, Tryd.ntmps45
    go_wp2_with fail
    go_ret2
    exact ⟨by rw [HR.out]; rfl, rfl⟩

end Go.Proofs.YtkcoclpbkealgaaDoor
namespace Go.Proofs.YtkcoclpbkealgaaDoor
open Go.RowKit
set_option maxRecDepth 20000

theorem tellL_length (x : Nat × List UInt8) : (tellL x).length = 2 := rfl
theorem tellL_one (x : Nat × List UInt8) : ∀ v ∈ tellL x, v.oneCell' = true := fun v hv => by
  unfold tellL at hv
  rcases List.mem_cons.1 hv with rfl | hv
  · rfl
  · obtain rfl : v = .string (bs x.2) := by simpa using hv
    rfl
theorem textL_one (x : List UInt8) : ∀ v ∈ textL x, v.oneCell' = true := fun v hv => by
  obtain rfl : v = .string (bs x) := by simpa [textL] using hv
  rfl
theorem wpList_build82 {w : World} {ops : Array Oper} {rest : List Oper} {o : Oper} {a : Act} {Q : Exit → Act → World → Prop} (hgd : o.guard = none) (x y : Operand) (ho : o.op = .build 76 #[(0, x), (1, y)]) (n : Nat) (l : List UInt8) (hx : a.eval x = .int .i64 (n : Int)) (hy : a.eval y = .string (bs l))
    (h : wpList Tryd.prog ops Q rest (a.put o.dst (.agg (tellL (n, l)).toArray)) w) : wpList Tryd.prog ops Q (o :: rest) a w :=
  wpList_run hgd _ w (exec_build2 ho hx hy (run_build w 76 _ _ (built82 (n : Int) (bs l)))) h
theorem wpList_build_cell {w : World} {ops : Array Oper} {rest : List Oper} {o : Oper} {a : Act} {Q : Exit → Act → World → Prop} (hgd : o.guard = none) (x : Operand) (ho : o.op = .buildSlice 28 1 #[(0, x)]) (l : List UInt8) (hx : a.eval x = .string (bs l))
    (h : ∀ W', Row W' w.heap.size (textL l).toArray 9 → New w W' → wpList Tryd.prog ops Q rest (a.put o.dst (.slice (some ⟨w.heap.size, 0, none⟩) 1 1)) W') : wpList Tryd.prog ops Q (o :: rest) a w :=
  wpList_run hgd _ _ (exec_buildSlice ho hx (run_buildCell w 28 9 (.string (bs l)) _ _ Tryd.underlying28 info9 rfl)) (h _ (Row.new w _ 9) ((New.refl w).alloc _))

set_option maxRecDepth 20000 in
set_option maxHeartbeats 2000000 in
theorem refwrite_any {w : World} {F : Nat → Prop} {p : Nat} {S : St} (D : Rd w F p S) (at_ : Int) (s : ByteArray) (hfew : S.ws.length < 1000) :
    Calls Tryd.prog 51 #[.pointer (some ⟨p, 0, none⟩), .int .i64 at_, .string s] w fun e w' => e = .returned (.int .i64 (S.write at_ (L s)).1) ∧ RLeft F p w (S.write at_ (L s)).2 w' := by
  have hac := refact_any D
  obtain ⟨a1, c1, a2, c2, h0, h1, h2, h3, h4, hf, _⟩ := D.open
  have HD : Hid (Rd w F p S) := D
  clear D hf
  have HR : Hid (S.write at_ (L s) = if S.down then (2, S) else if (L s).length ≠ 256 then (1, S) else if ¬ (0 ≤ at_ ∧ at_ < S.ps.length) then (4, S) else if S.fuse = 0 then (2, S.dead) else (0, { S.burn with ws := S.ws ++ [(at_.toNat, L s)] })) := rfl
  generalize S.write at_ (L s) = r at HR ⊢
  cases hd : S.down
  · rw [hd] at h4
    rw [hd, if_neg (by simp)] at HR
    by_cases hs : s.size = 256
    · have hL : (L s).length = 256 := by rw [L_size, hs]
      rw [if_neg (by rw [hL]; decide)] at HR
      have hs' : (s.size : Int) = 256 := by omega
      by_cases hin : 0 ≤ at_ ∧ at_ < S.ps.length
      · rw [if_neg (by simpa using hin)] at HR
        obtain ⟨n, rfl⟩ : ∃ n : Nat, at_ = (n : Int) := ⟨at_.toNat, by omega⟩
        have hn : n < S.ps.length := by omega
        rw [Int.toNat_natCast] at HR
        have hk1 : ¬ (n : Int) < 0 := by omega
        have hk2 : (n : Int) < (S.ps.length : Int) := hin.2
        have hk3 : ¬ (S.ps.length : Int) ≤ (n : Int) := by omega
        clear hin
        by_cases hz : S.fuse = 0
        · rw [if_pos hz] at HR
          simp only [if_pos hz] at hac
          go_enter Tryd.func51, Tryd.ntmps51
          go_wp2_with fail
          refine hac.mono ?_
          rintro _ w3 ⟨rfl, D3, S3⟩
          go_wp2_with fail
          go_ret
          exact ⟨by rw [HR.out]; rfl, by rw [HR.out]; exact ⟨F, D3, S3⟩⟩
        · rw [if_neg hz] at HR
          simp only [if_neg hz] at hac
          have hbs : s = bs (L s) := (bs_L s).symm
          obtain ⟨l, hl⟩ : ∃ l, L s = l := ⟨_, rfl⟩
          rw [hl] at hbs hL HR
          subst hbs
          clear hl
          go_enter Tryd.func51, Tryd.ntmps51
          go_wp2_with fail
          refine hac.mono ?_
          rintro _ w3 ⟨rfl, D3, S3⟩
          obtain ⟨b1, d1, b2, d2, _, _, k2, _, _, hf, R, P1, P2⟩ := D3.open
          have hpl := D3.lt
          have HD3 : Hid (Rd w3 F p S.burn) := D3
          have hlen : S.burn.ws.length = S.ws.length := rfl
          clear D3 hf hac h0 h1 h2 h3 h4
          go_wp2_with (first
            | refine wpList_build82 (by rfl) _ _ (by rfl) n l (by rfl) (by rfl) ?_
            | (refine wpList_build_one (by rfl) 60 _ (by rfl) Tryd.underlying60 _ _ info82 (tellL (n, l)).toArray (by rfl) rfl (by decide) (by decide) ?_; intro W3 R3 M3; have Q3 := P2.after M3)
            | (refine wpList_append_pl Q3 (by rfl) _ _ 60 (by rfl) Tryd.underlying60 _ _ info82 rfl (by decide) w3.heap.size (tellL (n, l)) 76 R3 rfl (tellL_one _) (by rw [List.length_map]; omega) (by decide) (by rfl) (by rfl) ?_; intro g3 cap3 W4 Q4 G4; have R4 : Row W4 p _ 63 := (R.after M3).of (G4.block p (Nat.lt_of_lt_of_le hpl M3.size) (fun e => (P2.foot p e.symm).2.1 rfl)); have hs2 := R4.cell 2; have hs3 := R4.frozen 2))
          go_ret
          refine ⟨by rw [HR.out]; rfl, ?_⟩
          rw [HR.out]
          rw [List.length_map] at Q4
          exact Rd.addWait S3 HD3.out R P1 P2 M3 G4 Q4 hn hL hfew
      · rw [if_pos (by simpa using hin)] at HR
        by_cases hlo : at_ < 0
        · clear hac hin
          go_enter Tryd.func51, Tryd.ntmps51
          go_wp2_with fail
          go_ret
          exact ⟨by rw [HR.out]; rfl, by rw [HR.out]; exact ⟨F, HD.out, Step.refl _ _⟩⟩
        · have hhi : (S.ps.length : Int) ≤ at_ := by omega
          clear hac hin
          go_enter Tryd.func51, Tryd.ntmps51
          go_wp2_with fail
          go_ret
          exact ⟨by rw [HR.out]; rfl, by rw [HR.out]; exact ⟨F, HD.out, Step.refl _ _⟩⟩
    · rw [if_pos (by rw [L_size]; simpa using hs)] at HR
      have hs' : ¬ (s.size : Int) = 256 := by omega
      clear hac
      go_enter Tryd.func51, Tryd.ntmps51
      go_wp2_with fail
      go_ret
      exact ⟨by rw [HR.out]; rfl, by rw [HR.out]; exact ⟨F, HD.out, Step.refl _ _⟩⟩
  · rw [hd] at h4
    rw [hd, if_pos rfl] at HR
    clear hac
    go_enter Tryd.func51, Tryd.ntmps51
    go_wp2_with fail
    go_ret
    exact ⟨by rw [HR.out]; rfl, by rw [HR.out]; exact ⟨F, HD.out, Step.refl _ _⟩⟩

theorem take_next {α : Type} (l : List α) (d : α) {i : Nat} (h : i < l.length) : l.take (i + 1) = l.take i ++ [l.getD i d] := by
  rw [List.take_add_one, List.getElem?_eq_getElem h, List.getD_eq_getElem?_getD, List.getElem?_eq_getElem h]; rfl
set_option maxRecDepth 20000 in
set_option maxHeartbeats 2000000 in
theorem refpages_any {w : World} {F : Nat → Prop} {p : Nat} {S : St} (D : Rd w F p S) :
    Calls Tryd.prog 35 #[.pointer (some ⟨p, 0, none⟩)] w fun e w' => ∃ v, e = .returned v ∧ Pl w' (Fresh w) 9 1 v ((latest S.ps S.ws).map textL) ∧ New w w' := by
  have HD : Hid (Rd w F p S) := D
  have hll := latest_length S.ps S.ws
  have hlen : S.ps.length ≤ 200 := Nat.le_trans D.ok.len D.ok.lim
  clear D
  obtain ⟨lt, hlt⟩ : ∃ lt, latest S.ps S.ws = lt := ⟨_, rfl⟩
  have HE : Hid (latest S.ps S.ws = lt) := hlt
  rw [hlt] at hll ⊢
  clear hlt
  go_enter Tryd.func35, Tryd.ntmps35
  go_wp2_with fail
  go_loopw [3, 4] (fun v u wr => ∃ i : Nat, i ≤ S.ps.length ∧ u = .int .i64 (i : Int) ∧ Pl wr (Fresh w) 9 1 v ((lt.take i).map textL) ∧ New w wr) (fun _ u _ => S.ps.length - (intOf u).toNat)
  case atStart => exact ⟨0, by omega, rfl, by simpa using Pl.nil w (Fresh w) 9 1, New.refl w⟩
  case round =>
    obtain ⟨i, hi, rfl, Q, N⟩ := hrel
    have D1 := HD.out.after N
    obtain ⟨a1, c1, a2, c2, _, k1, _, _, _, hf, _⟩ := D1.open
    by_cases hin : i < S.ps.length
    · have hin' : (i : Int) < (S.ps.length : Int) := by omega
      have hat := refat_any D1 i hin
      rw [HE.out] at hat
      have HT : Hid ((lt.take (i + 1)).map textL = (lt.take i).map textL ++ [textL (lt.getD i [])]) := by
        show _ = _
        rw [take_next lt [] (by omega), List.map_append]; rfl
      generalize lt.getD i [] = d at hat HT
      have hlq : ((lt.take i).map textL).length = i := by rw [List.length_map, List.length_take]; omega
      have hmin : min i lt.length = i := by omega
      clear hf D1
      go_wp2_with fail
      refine hat.mono ?_
      rintro _ w1 ⟨rfl, rfl⟩
      clear hat k1
      go_wp2_with (first
        | (refine wpList_build_cell (by rfl) _ (by rfl) d (by rfl) ?_; intro W3 R3 M3; have Q3 := Q.after M3)
        | (refine wpList_append_pl Q3 (by rfl) _ _ 28 (by rfl) Tryd.underlying28 _ _ info9 rfl (by decide) w1.heap.size (textL d) 9 R3 rfl (textL_one _) (by rw [hlq]; omega) (by decide) (by rfl) (by rfl) ?_; intro g3 cap3 W4 Q4 G4))
      rw [hlq] at Q4
      refine ⟨⟨i + 1, by omega, by go_num, ?_, ?_⟩, by simp [intOf]; omega⟩
      · rw [HT.out]
        exact Q4.mono fun b hb _ => by
          rcases hb with h | h
          · exact h
          · have := N.size
            have := M3.size
            show w.heap.size ≤ b
            omega
      · exact (N.trans M3).grown G4 fun k hk => Q.foot k hk
    · obtain rfl : i = S.ps.length := by omega
      have hT : lt.take S.ps.length = lt := List.take_of_length_le (by omega)
      rw [hT] at Q
      clear hf D1
      go_wp2_with fail
      go_ret
      exact ⟨_, rfl, Q, N⟩

end Go.Proofs.YtkcoclpbkealgaaDoor
namespace Go.Proofs.YtkcoclpbkealgaaDoor
open Go.RowKit
set_option maxRecDepth 20000

theorem But.setCell (w : World) (g i : Nat) (v : Value) : But g w (w.setCell ⟨g, i, none⟩ v) := ⟨rfl, rfl, rfl, by simp [World.setCell], fun k hk => Below.heap_setCell _ _ _ _ hk⟩
theorem Pl.setOne {w : World} {F : Nat → Prop} {t : TypeId} {g n c : Nat} {es : List (List Value)} (h : Pl w F t 1 (.slice (some ⟨g, 0, none⟩) n c) es) {i : Nat} (hi : i < es.length) (v : Value) :
    Pl (w.setCell ⟨g, i, none⟩ v) F t 1 (.slice (some ⟨g, 0, none⟩) n c) (es.set i [v]) := by
  have := h.set hi (e := [v]) rfl
  rw [Nat.mul_one] at this
  exact this
theorem Pl.frozen {w : World} {F : Nat → Prop} {t : TypeId} {k g n c : Nat} {es : List (List Value)} (h : Pl w F t k (.slice (some ⟨g, 0, none⟩) n c) es) (i : Nat) : w.frozen? ⟨g, i, none⟩ = false := by
  obtain ⟨cur, R, _⟩ := h.row
  exact R.frozen i
theorem exec_make {P : Program} {o : Oper} {a : Act} {w w' : World} {T : TypeId} {x y : Operand} {u v r : Value} (ho : o.op = .makeSlice T x y) (hx : a.eval x = u) (hy : a.eval y = v) (hr : (Instr.makeSlice T u v).run P w = .ok r w') : (execOp a.eval o).run P w = .ok (.value r) w' := by
  unfold execOp
  simp only [ho, hx, hy, Sem.run_bind, hr, Result.andThen_ok, Sem.run_pure]
theorem exec_convert {P : Program} {o : Oper} {a : Act} {w w' : World} {S T : TypeId} {x : Operand} {u r : Value} (ho : o.op = .convert S T x) (hx : a.eval x = u) (hr : (convert S T u).run P w = .ok r w') : (execOp a.eval o).run P w = .ok (.value r) w' := by
  unfold execOp
  simp only [ho, hx, Sem.run_bind, hr, Result.andThen_ok, Sem.run_pure]

end Go.Proofs.YtkcoclpbkealgaaDoor
namespace Go.Proofs.YtkcoclpbkealgaaDoor
open Go.RowKit
set_option maxRecDepth 20000

/-- A new row of zeros, as a text. -/
theorem zero_text (w : World) : ∃ W, (Instr.makeSlice 22 (.int .i64 256) (.int .i64 256)).run Tryd.prog w = .ok (.slice (some ⟨w.heap.size, 0, none⟩) 256 256) W ∧ New w W ∧ (convert 22 9 (.slice (some ⟨w.heap.size, 0, none⟩) 256 256)).run Tryd.prog W = .ok (.string (bs zeros)) W := by
  obtain ⟨i0, hi0, hz0, hz1, hz2⟩ := info_parts info5
  have hmk := run_make (P := Tryd.prog) w 22 5 i0 _ Tryd.underlying22 hi0 hz0 .i64 .i64 256 256 (by omega) (by omega) (by rw [hz2]; omega) (by omega)
  have hrow : madeCells (Value.int .u8 0).cells ((256 : Int).toNat * i0.size) = (cellsL zeros).toArray := by
    rw [hz1]
    apply Array.ext'
    show (madeCells #[Value.int .u8 0] 256).toList = _
    rw [toList_madeCells_one]
    unfold cellsL zeros
    rw [List.map_replicate]; rfl
  rw [hrow] at hmk
  have R0 := Row.new w (cellsL zeros).toArray 5
  refine ⟨_, hmk, (New.refl w).alloc _, ?_⟩
  have hc := run_convert_bytes_back (w.alloc (.cells (cellsL zeros).toArray 5)) 22 9 5 ⟨w.heap.size, 0, none⟩ 256 zeros Tryd.underlying22 Tryd.underlying5 Tryd.underlying9 (fun j hj => by
    rw [Addr.add_mid, Nat.zero_add, R0.cell, List.getElem?_toArray]
    exact cellsL_get (List.getElem?_eq_getElem hj))
  rw [zeros_length] at hc
  exact hc

theorem takes_app {α β : Type} (f : α → β) (ws : List α) (q : α → Bool) (d : α) {i : Nat} (h : i < ws.length) : ((ws.take (i + 1)).filter q).map f = ((ws.take i).filter q).map f ++ (if q (ws.getD i d) then [f (ws.getD i d)] else []) := by
  rw [take_next ws d h, List.filter_append, List.map_append]
  congr 1
  by_cases hq : q (ws.getD i d) = true
  · rw [if_pos hq, List.filter_cons_of_pos hq]; rfl
  · rw [if_neg hq, List.filter_cons_of_neg hq]; rfl

theorem Pl.cases {w : World} {F : Nat → Prop} {t : TypeId} {k : Nat} {v : Value} {es : List (List Value)} (h : Pl w F t k v es) : (v = .slice none 0 0 ∧ es = []) ∨ ∃ g c, v = .slice (some ⟨g, 0, none⟩) es.length c ∧ es.length ≤ c := by
  rcases h.own.2 with ⟨h1, h2⟩ | ⟨g, cap, cur, hv, _, _, hc, _⟩
  · exact .inl ⟨h1, List.eq_nil_of_length_eq_zero h2⟩
  · exact .inr ⟨g, cap, hv, hc⟩
theorem Rd.rebuilt {w0 w W wr : World} {F : Nat → Prop} {p : Nat} {S : St} {v1 v2 v v6 : Value} {ps : List (List UInt8)} {ws : List (Nat × List UInt8)} (S0 : Step F F w0 w) (D : Rd w F p S) (R : Row w p #[.int .i64 (S.lim : Int), v1, v2, .int .i64 S.fuse, .bool S.down] 63) (N : New w W) (Q1 : Pl W (Fresh w) 9 1 v (ps.map textL))
    (N' : New (W.setCell ⟨p, 1, none⟩ v) wr) (Q2 : Pl wr (Fresh (W.setCell ⟨p, 1, none⟩ v)) 76 2 v6 (ws.map tellL)) (hok : Ok { S with ps := ps, ws := ws }) : RLeft F p w0 { S with ps := ps, ws := ws } (wr.setCell ⟨p, 2, none⟩ v6) := by
  have hpl := D.lt
  have hsz := N.size
  have hs1 : (W.setCell ⟨p, 1, none⟩ v).heap.size = W.heap.size := by simp [World.setCell]
  have R4 : Row (W.setCell ⟨p, 1, none⟩ v) p #[.int .i64 (S.lim : Int), v, v2, .int .i64 S.fuse, .bool S.down] 63 := (R.after N).set 1 v
  have e : ∀ b, b ≠ p → (wr.setCell ⟨p, 2, none⟩ v6).heap[b]? = wr.heap[b]? := fun b hb => Below.heap_setCell _ _ _ _ hb
  have f : ∀ b, b ≠ p → (W.setCell ⟨p, 1, none⟩ v).heap[b]? = W.heap[b]? := fun b hb => Below.heap_setCell _ _ _ _ hb
  have hn : ∀ g, v.ownBlock = some g → w.heap.size ≤ g ∧ g < W.heap.size := fun g hg => ⟨Q1.foot g hg, Q1.lt hg⟩
  have hn6 : ∀ g, v6.ownBlock = some g → W.heap.size ≤ g := fun g hg => by have := Q2.foot g hg; unfold Fresh at this; omega
  refine ⟨Wide F w0 _, Rd.build (F := F) (w := w0) (v1 := v) (v2 := v6) (G1 := fun g => v.ownBlock = some g) (G2 := fun g => v6.ownBlock = some g) D.base hok ((R4.after N').set 2 _) ?_ ?_ ?_ ?_, ?_⟩
  · have Q1' : Pl (W.setCell ⟨p, 1, none⟩ v) (fun g => v.ownBlock = some g) 9 1 v (ps.map textL) := (Q1.refoot (G := fun g => v.ownBlock = some g) fun _ h => h).of (fun b hb _ => f b (by have := (hn b hb).1; omega)) (fun _ h _ => h)
    exact (Q1'.after N').of (fun b hb _ => e b (by have := (hn b hb).1; omega)) (fun _ h _ => h)
  · exact (Q2.refoot (G := fun g => v6.ownBlock = some g) fun _ h => h).of (fun b hb _ => e b (by have := hn6 b hb; omega)) (fun _ h _ => h)
  · intro g hg
    have := (hn g hg).1
    exact ⟨.inr (Nat.le_trans S0.size this), by omega⟩
  · intro g hg
    have := hn6 g hg
    exact ⟨.inr (Nat.le_trans S0.size (Nat.le_trans hsz this)), by omega, fun h => by have := (hn g h).2; omega⟩
  · exact ((((S0.trans (Step.new N)).trans (Step.setCell W (a := ⟨p, 1, none⟩) D.base _)).trans (Step.new N')).trans (Step.setCell _ (a := ⟨p, 2, none⟩) D.base _)).widen
theorem Ok.shrunk {S : St} (h : Ok S) (k : Nat) (hk : k ≤ S.ps.length) : Ok { S with ps := S.ps.take k, ws := S.ws.filter fun x => decide (x.1 < k) } := by
  have hl : (S.ps.take k).length = k := by rw [List.length_take]; omega
  refine ⟨fun q hq => h.page q (List.mem_of_mem_take hq), fun x hx => ?_, h.lim, ?_, ?_, h.lo, h.hi⟩
  · obtain ⟨h1, h2⟩ := List.mem_filter.1 hx
    exact ⟨by show x.1 < (S.ps.take k).length; rw [hl]; simpa using h2, (h.wait x h1).2⟩
  · show (S.ps.take k).length ≤ S.lim
    have := h.len
    omega
  · show (S.ws.filter _).length ≤ 1000
    exact Nat.le_trans (List.length_filter_le _ _) h.few
theorem text_cells {w : World} {F : Nat → Prop} {g n c : Nat} {ps : List (List UInt8)} (h : Pl w F 9 1 (.slice (some ⟨g, 0, none⟩) n c) (ps.map textL)) (k : Nat) (hk : k ≤ ps.length) :
    0 < ((ps.take k).map fun t => Value.string (bs t)).length → ∃ x, some (⟨g, 0, none⟩ : Addr) = some x ∧ ∀ j u, ((ps.take k).map fun t => Value.string (bs t))[j]? = some u → w.cell? (x.add j) = some u := fun _ => by
  refine ⟨_, rfl, fun j u hu => ?_⟩
  rw [List.getElem?_map] at hu
  have hj : j < k := by
    rcases Nat.lt_or_ge j (ps.take k).length with h' | h'
    · rw [List.length_take] at h'; omega
    · rw [List.getElem?_eq_none h'] at hu; cases hu
  rw [List.getElem?_take, if_pos hj, List.getElem?_eq_getElem (by omega)] at hu
  cases hu
  rw [Addr.add_mid, Nat.zero_add, h.text (by omega), List.getD_eq_getElem?_getD, List.getElem?_eq_getElem (by omega)]; rfl
theorem texts_map (l : List (List UInt8)) : (l.map fun t => Value.string (bs t)).map (fun u => [u]) = l.map textL := by rw [List.map_map]; rfl

end Go.Proofs.YtkcoclpbkealgaaDoor
