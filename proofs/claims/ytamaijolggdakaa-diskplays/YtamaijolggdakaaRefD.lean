/-
  What the document's own disk leaves behind Grow and Shrink.
-/
import Derived.Test.YtamaijolggdakaaRefC
namespace Go.Proofs.Ytamaijolggdakaa
open Go.RowKit

/-- A new row of zeros, as a text. -/
theorem zero_text (w : World) : ∃ W, (Instr.makeSlice 30 (.int .i64 256) (.int .i64 256)).run Try.prog w = .ok (.slice (some ⟨w.heap.size, 0, none⟩) 256 256) W ∧ New w W ∧ (convert 30 9 (.slice (some ⟨w.heap.size, 0, none⟩) 256 256)).run Try.prog W = .ok (.string (bs zeros)) W := by
  obtain ⟨i0, hi0, hz0, hz1, hz2⟩ := info_parts info5
  have hmk := run_make (P := Try.prog) w 30 5 i0 _ Try.underlying30 hi0 hz0 .i64 .i64 256 256 (by omega) (by omega) (by rw [hz2]; omega) (by omega)
  have hrow : madeCells (Value.int .u8 0).cells ((256 : Int).toNat * i0.size) = (cellsL zeros).toArray := by
    rw [hz1]
    apply Array.ext'
    show (madeCells #[Value.int .u8 0] 256).toList = _
    rw [toList_madeCells_one]
    unfold cellsL zeros
    rw [List.map_replicate]; rfl
  rw [hrow] at hmk
  have R0 := Row.new w (cellsL zeros).toArray 5
  refine ⟨_, hmk, (New.refl w).alloc _, ?_⟩
  have hc := run_convert_bytes_back (w.alloc (.cells (cellsL zeros).toArray 5)) 30 9 5 ⟨w.heap.size, 0, none⟩ 256 zeros Try.underlying30 Try.underlying5 Try.underlying9 (fun j hj => by
    rw [Addr.add_mid, Nat.zero_add, R0.cell, List.getElem?_toArray]
    exact cellsL_get (List.getElem?_eq_getElem hj))
  rw [zeros_length] at hc
  exact hc

set_option maxRecDepth 20000 in
set_option maxHeartbeats 2000000 in
theorem refgrow_any {w : World} {F : Nat → Prop} {p : Nat} {S : St} (D : Rd w F p S) (n : Int) :
    Calls Try.prog 20 #[.pointer (some ⟨p, 0, none⟩), .int .i64 n] w fun e w' => e = .returned (.int .i64 (S.grow n).1) ∧ RLeft F p w (S.grow n).2 w' := by
  have hac := refact_any D
  have HD : Hid (Rd w F p S) := D
  obtain ⟨_, _, _, _, hl0, _, _, _, h4, _⟩ := D.open
  clear D
  have HR : Hid (S.grow n = if S.down then (2, S) else if n < 0 then (1, S) else if (S.lim : Int) < n then (3, S) else if S.fuse = 0 then (2, S.dead) else (0, { S.burn with ps := growTo S.ps n.toNat })) := rfl
  generalize S.grow n = r at HR ⊢
  cases hd : S.down
  · rw [hd] at h4
    rw [hd, if_neg (by simp)] at HR
    by_cases h0 : n < 0
    · rw [if_pos h0] at HR
      clear hac
      go_enter Try.func20, Try.ntmps20
      go_wp2_with fail
      go_ret
      exact ⟨by rw [HR.out]; rfl, by rw [HR.out]; exact ⟨F, HD.out, Step.refl _ _⟩⟩
    · rw [if_neg h0] at HR
      by_cases h1 : (S.lim : Int) < n
      · rw [if_pos h1] at HR
        clear hac
        go_enter Try.func20, Try.ntmps20
        go_wp2_with fail
        go_ret
        exact ⟨by rw [HR.out]; rfl, by rw [HR.out]; exact ⟨F, HD.out, Step.refl _ _⟩⟩
      · rw [if_neg h1] at HR
        by_cases hz : S.fuse = 0
        · rw [if_pos hz] at HR
          simp only [if_pos hz] at hac
          go_enter Try.func20, Try.ntmps20
          go_wp2_with fail
          refine hac.mono ?_
          rintro _ w3 ⟨rfl, D3, S3⟩
          go_wp2_with fail
          go_ret
          exact ⟨by rw [HR.out]; rfl, by rw [HR.out]; exact ⟨F, D3, S3⟩⟩
        · rw [if_neg hz] at HR
          simp only [if_neg hz] at hac
          obtain ⟨k, rfl⟩ : ∃ k : Nat, n = (k : Int) := ⟨n.toNat, by omega⟩
          rw [Int.toNat_natCast] at HR
          go_enter Try.func20, Try.ntmps20
          go_wp2_with fail
          refine hac.mono ?_
          rintro _ w3 ⟨rfl, D3, S3⟩
          clear hac hl0 h4
          go_wp2_with fail
          go_loopw [26] (fun _ wr => ∃ m : Nat, S.ps.length ≤ m ∧ (m = S.ps.length ∨ m ≤ k) ∧ RLeft F p w { S.burn with ps := growTo S.ps m } wr) (fun _ wr => k - longAt wr p)
          case atStart => exact ⟨S.ps.length, Nat.le_refl _, .inl rfl, F, by rw [growTo_same (Nat.le_refl _)]; exact D3, S3⟩
          case round =>
            clear D3 S3
            obtain ⟨m, hm1, hm2, F', D4, S4⟩ := hrel
            have hL : (growTo S.ps m).length = m := growTo_length hm1
            have hlim : S.lim ≤ 200 := HD.out.ok.lim
            have HN : Hid (growTo S.ps m ++ [zeros] = growTo S.ps (m + 1)) := growTo_next hm1
            have HE : Hid (¬ m < k → growTo S.ps m = growTo S.ps k) := fun h => by
              rcases hm2 with rfl | h2
              · rw [growTo_same (Nat.le_refl _), growTo_same (by omega)]
              · rw [show m = k by omega]
            obtain ⟨lp, hlp⟩ : ∃ lp, growTo S.ps m = lp := ⟨_, rfl⟩
            rw [hlp] at D4 hL HN HE
            obtain ⟨a1, c1, a2, c2, _, k1, _, _, _, hf, R, P1, P2⟩ := D4.open
            simp only at k1 R P1 P2
            rw [hL] at k1 R P1 P2
            have hlong : longAt wr p = m := by unfold longAt; rw [k1]
            have hpl := D4.lt
            have HD4 : Hid (Rd wr F' p { S.burn with ps := lp }) := D4
            clear hlp
            by_cases hlt : m < k
            · have hlt' : (m : Int) < (k : Int) := by omega
              have P1t := Rd.turned P1 P2
              go_wp2_with fail
              refine region_take [0, 1, 2, 3, 4] [5, 6, 7, 8, 9, 10] 11 (HasCell ⟨p, 1, none⟩ (.slice a1 m c1)) (HasCell.of k1) (by kernel_rfl) (by kernel_rfl) (fun d _ _ _ _ h => by cases d <;> exact h) ?_
              simp only [pick, List.getElem?_cons_succ, List.getElem?_cons_zero, Option.toList_some, List.cons_append, List.nil_append]
              have hne : Nonempty (CellW ⟨p, 1, none⟩ (.slice a1 m c1)) := ⟨⟨wr, k1⟩⟩
              have hq2 : ∀ q : CellW ⟨p, 1, none⟩ (.slice a1 m c1), q.v.cell? ⟨p, 1, none⟩ = some (.slice a1 m c1) := fun q => q.h
              unfold HasCell
              iterate 5 (go_big_quiet_step (fail))
              refine wpQuiet_nil ?_
              have NW0 : New wr wr.drew := New.drew wr
              clear hq2 hne
              obtain ⟨W1, hmk, N1, hcv⟩ := zero_text wr.drew
              have M1 : New wr W1 := NW0.trans N1
              refine wpPre_run (some 38) _ W1 (by rfl) (by rfl) (by rfl) (exec_make (by rfl) (by rfl) (by rfl) hmk) (HasCell.of ((M1.cell hpl).trans k1)) ?_
              simp only [Act.put, List.setIfInBounds_toArray, List.set_cons_zero, List.set_cons_succ]
              refine wpPre_run (some 39) _ W1 (by rfl) (by rfl) (by rfl) (exec_convert (by rfl) (by rfl) hcv) (HasCell.of ((M1.cell hpl).trans k1)) ?_
              simp only [Act.put, List.setIfInBounds_toArray, List.set_cons_zero, List.set_cons_succ]
              have hb1 := run_buildCell W1 47 9 (.string (bs zeros)) _ _ Try.underlying47 info9 rfl
              have R2 := Row.new W1 (textL zeros).toArray 9
              have M2 : New wr (W1.alloc (.cells (textL zeros).toArray 9)) := M1.alloc _
              change Sem.run _ _ _ = Result.ok _ (W1.alloc (.cells (textL zeros).toArray 9)) at hb1
              generalize W1.alloc (.cells (textL zeros).toArray 9) = W2 at hb1 R2 M2
              refine wpPre_run (some 40) _ W2 (by rfl) (by rfl) (by rfl) (exec_buildSlice (by rfl) (by rfl) hb1) (HasCell.of ((M2.cell hpl).trans k1)) ?_
              simp only [Act.put, List.setIfInBounds_toArray, List.set_cons_zero, List.set_cons_succ]
              obtain ⟨g3, cap3, W3, hb2, Q3, G3⟩ := run_append_pl (P1t.after M2) 47 47 Try.underlying47 _ _ info9 rfl (by decide) W1.heap.size (textL zeros) 9 R2 rfl (textL_one _) (by rw [List.length_map]; omega) (by decide)
              rw [List.length_map, hL] at hb2 Q3
              have R3 : Row W3 p _ 50 := (R.after M2).of (G3.block p (Nat.lt_of_lt_of_le hpl M2.size) (fun e => (P1t.foot p e.symm).2.1 rfl))
              have hs3 : W3.cell? ⟨p, 1, none⟩ = some (.slice a1 m c1) := R3.cell 1
              have hf3 := R3.frozen 1
              refine wpPre_run (some 41) _ W3 (by rfl) (by rfl) (by rfl) (exec_append (by rfl) (by rfl) (by rfl) hb2) (HasCell.of hs3) ?_
              simp only [Act.put, List.setIfInBounds_toArray, List.set_cons_zero, List.set_cons_succ]
              refine wpPre_run (some 42) (.pointer (some ⟨p, 0, none⟩)) W3 (by rfl) (by rfl) (by rfl) (by go_simp) (HasCell.of hs3) ?_
              simp only [Act.put, List.setIfInBounds_toArray, List.set_cons_zero, List.set_cons_succ]
              refine wpPre_run (some 43) (.pointer (some ⟨p, 1, none⟩)) W3 (by rfl) (by rfl) (by rfl) (by go_simp) (HasCell.of hs3) ?_
              simp only [Act.put, List.setIfInBounds_toArray, List.set_cons_zero, List.set_cons_succ]
              refine wpPre_nil ?_
              clear hb1 hb2 hf hmk hcv
              go_wp2_with fail
              refine ⟨⟨m + 1, by omega, .inr (by omega), ?_⟩, ?_⟩
              · rw [← HN.out]
                exact Rd.addPage S4 HD.out.base HD4.out R P2 P1t M2 G3 Q3 zeros_length (by show lp.length < S.lim; omega)
              · have hnew : longAt (W3.setCell ⟨p, 1, none⟩ (.slice (some ⟨g3, 0, none⟩) (m + 1) cap3)) p = m + 1 := by
                  unfold longAt
                  rw [World.cell?_setCell_same _ _ _ hs3]
                rw [hnew, hlong]
                omega
            · have hlt' : ¬ (m : Int) < (k : Int) := by omega
              clear hf
              go_wp2_with fail
              go_ret
              refine ⟨by rw [HR.out]; rfl, ?_⟩
              rw [HR.out, ← HE.out (by omega)]
              exact ⟨F', HD4.out, S4⟩
  · rw [hd] at h4
    rw [hd, if_pos rfl] at HR
    clear hac
    go_enter Try.func20, Try.ntmps20
    go_wp2_with fail
    go_ret
    exact ⟨by rw [HR.out]; rfl, by rw [HR.out]; exact ⟨F, HD.out, Step.refl _ _⟩⟩

theorem takes_app {α β : Type} (f : α → β) (ws : List α) (q : α → Bool) (d : α) {i : Nat} (h : i < ws.length) : ((ws.take (i + 1)).filter q).map f = ((ws.take i).filter q).map f ++ (if q (ws.getD i d) then [f (ws.getD i d)] else []) := by
  rw [take_next ws d h, List.filter_append, List.map_append]
  congr 1
  by_cases hq : q (ws.getD i d) = true
  · rw [if_pos hq, List.filter_cons_of_pos hq]; rfl
  · rw [if_neg hq, List.filter_cons_of_neg hq]; rfl

theorem Pl.cases {w : World} {F : Nat → Prop} {t : TypeId} {k : Nat} {v : Value} {es : List (List Value)} (h : Pl w F t k v es) : (v = .slice none 0 0 ∧ es = []) ∨ ∃ g c, v = .slice (some ⟨g, 0, none⟩) es.length c ∧ es.length ≤ c := by
  rcases h.own.2 with ⟨h1, h2⟩ | ⟨g, cap, cur, hv, _, _, hc, _⟩
  · exact .inl ⟨h1, List.eq_nil_of_length_eq_zero h2⟩
  · exact .inr ⟨g, cap, hv, hc⟩
theorem Rd.rebuilt {w0 w W wr : World} {F : Nat → Prop} {p : Nat} {S : St} {v1 v2 v v6 : Value} {ps : List (List UInt8)} {ws : List (Nat × List UInt8)} (S0 : Step F F w0 w) (D : Rd w F p S) (R : Row w p #[.int .i64 (S.lim : Int), v1, v2, .int .i64 S.fuse, .bool S.down] 50) (N : New w W) (Q1 : Pl W (Fresh w) 9 1 v (ps.map textL))
    (N' : New (W.setCell ⟨p, 1, none⟩ v) wr) (Q2 : Pl wr (Fresh (W.setCell ⟨p, 1, none⟩ v)) 82 2 v6 (ws.map tellL)) (hok : Ok { S with ps := ps, ws := ws }) : RLeft F p w0 { S with ps := ps, ws := ws } (wr.setCell ⟨p, 2, none⟩ v6) := by
  have hpl := D.lt
  have hsz := N.size
  have hs1 : (W.setCell ⟨p, 1, none⟩ v).heap.size = W.heap.size := by simp [World.setCell]
  have R4 : Row (W.setCell ⟨p, 1, none⟩ v) p #[.int .i64 (S.lim : Int), v, v2, .int .i64 S.fuse, .bool S.down] 50 := (R.after N).set 1 v
  have e : ∀ b, b ≠ p → (wr.setCell ⟨p, 2, none⟩ v6).heap[b]? = wr.heap[b]? := fun b hb => Below.heap_setCell _ _ _ _ hb
  have f : ∀ b, b ≠ p → (W.setCell ⟨p, 1, none⟩ v).heap[b]? = W.heap[b]? := fun b hb => Below.heap_setCell _ _ _ _ hb
  have hn : ∀ g, v.ownBlock = some g → w.heap.size ≤ g ∧ g < W.heap.size := fun g hg => ⟨Q1.foot g hg, Q1.lt hg⟩
  have hn6 : ∀ g, v6.ownBlock = some g → W.heap.size ≤ g := fun g hg => by have := Q2.foot g hg; unfold Fresh at this; omega
  refine ⟨Wide F w0 _, Rd.build (F := F) (w := w0) (v1 := v) (v2 := v6) (G1 := fun g => v.ownBlock = some g) (G2 := fun g => v6.ownBlock = some g) D.base hok ((R4.after N').set 2 _) ?_ ?_ ?_ ?_, ?_⟩
  · have Q1' : Pl (W.setCell ⟨p, 1, none⟩ v) (fun g => v.ownBlock = some g) 9 1 v (ps.map textL) := (Q1.refoot (G := fun g => v.ownBlock = some g) fun _ h => h).of (fun b hb _ => f b (by have := (hn b hb).1; omega)) (fun _ h _ => h)
    exact (Q1'.after N').of (fun b hb _ => e b (by have := (hn b hb).1; omega)) (fun _ h _ => h)
  · exact (Q2.refoot (G := fun g => v6.ownBlock = some g) fun _ h => h).of (fun b hb _ => e b (by have := hn6 b hb; omega)) (fun _ h _ => h)
  · intro g hg
    have := (hn g hg).1
    exact ⟨.inr (Nat.le_trans S0.size this), by omega⟩
  · intro g hg
    have := hn6 g hg
    exact ⟨.inr (Nat.le_trans S0.size (Nat.le_trans hsz this)), by omega, fun h => by have := (hn g h).2; omega⟩
  · exact ((((S0.trans (Step.new N)).trans (Step.setCell W (a := ⟨p, 1, none⟩) D.base _)).trans (Step.new N')).trans (Step.setCell _ (a := ⟨p, 2, none⟩) D.base _)).widen
theorem Ok.shrunk {S : St} (h : Ok S) (k : Nat) (hk : k ≤ S.ps.length) : Ok { S with ps := S.ps.take k, ws := S.ws.filter fun x => decide (x.1 < k) } := by
  have hl : (S.ps.take k).length = k := by rw [List.length_take]; omega
  refine ⟨fun q hq => h.page q (List.mem_of_mem_take hq), fun x hx => ?_, h.lim, ?_, ?_, h.lo, h.hi⟩
  · obtain ⟨h1, h2⟩ := List.mem_filter.1 hx
    exact ⟨by show x.1 < (S.ps.take k).length; rw [hl]; simpa using h2, (h.wait x h1).2⟩
  · show (S.ps.take k).length ≤ S.lim
    have := h.len
    omega
  · show (S.ws.filter _).length ≤ 1000
    exact Nat.le_trans (List.length_filter_le _ _) h.few
theorem text_cells {w : World} {F : Nat → Prop} {g n c : Nat} {ps : List (List UInt8)} (h : Pl w F 9 1 (.slice (some ⟨g, 0, none⟩) n c) (ps.map textL)) (k : Nat) (hk : k ≤ ps.length) :
    0 < ((ps.take k).map fun t => Value.string (bs t)).length → ∃ x, some (⟨g, 0, none⟩ : Addr) = some x ∧ ∀ j u, ((ps.take k).map fun t => Value.string (bs t))[j]? = some u → w.cell? (x.add j) = some u := fun _ => by
  refine ⟨_, rfl, fun j u hu => ?_⟩
  rw [List.getElem?_map] at hu
  have hj : j < k := by
    rcases Nat.lt_or_ge j (ps.take k).length with h' | h'
    · rw [List.length_take] at h'; omega
    · rw [List.getElem?_eq_none h'] at hu; cases hu
  rw [List.getElem?_take, if_pos hj, List.getElem?_eq_getElem (by omega)] at hu
  cases hu
  rw [Addr.add_mid, Nat.zero_add, h.text (by omega), List.getD_eq_getElem?_getD, List.getElem?_eq_getElem (by omega)]; rfl
theorem texts_map (l : List (List UInt8)) : (l.map fun t => Value.string (bs t)).map (fun u => [u]) = l.map textL := by rw [List.map_map]; rfl

set_option maxRecDepth 20000 in
set_option maxHeartbeats 2000000 in
theorem refshrink_any {w : World} {F : Nat → Prop} {p : Nat} {S : St} (D : Rd w F p S) (n : Int) :
    Calls Try.prog 22 #[.pointer (some ⟨p, 0, none⟩), .int .i64 n] w fun e w' => e = .returned (.int .i64 (S.shrink n).1) ∧ RLeft F p w (S.shrink n).2 w' := by
  have hac := refact_any D
  have HD : Hid (Rd w F p S) := D
  obtain ⟨_, _, _, _, _, h1, _, _, h4, _⟩ := D.open
  clear D
  have HR : Hid (S.shrink n = if S.down then (2, S) else if n < 0 ∨ (S.ps.length : Int) < n then (4, S) else if S.fuse = 0 then (2, S.dead) else (0, { S.burn with ps := S.ps.take n.toNat, ws := S.ws.filter fun x => decide (x.1 < n.toNat) })) := rfl
  generalize S.shrink n = r at HR ⊢
  cases hd : S.down
  · rw [hd] at h4
    rw [hd, if_neg (by simp)] at HR
    by_cases h0 : n < 0
    · rw [if_pos (.inl h0)] at HR
      clear hac
      go_enter Try.func22, Try.ntmps22
      go_wp2_with fail
      go_ret
      exact ⟨by rw [HR.out]; rfl, by rw [HR.out]; exact ⟨F, HD.out, Step.refl _ _⟩⟩
    · by_cases h2 : (S.ps.length : Int) < n
      · rw [if_pos (.inr h2)] at HR
        clear hac
        go_enter Try.func22, Try.ntmps22
        go_wp2_with fail
        go_ret
        exact ⟨by rw [HR.out]; rfl, by rw [HR.out]; exact ⟨F, HD.out, Step.refl _ _⟩⟩
      · rw [if_neg (by omega)] at HR
        by_cases hz : S.fuse = 0
        · rw [if_pos hz] at HR
          simp only [if_pos hz] at hac
          go_enter Try.func22, Try.ntmps22
          go_wp2_with fail
          refine hac.mono ?_
          rintro _ w3 ⟨rfl, D3, S3⟩
          go_wp2_with fail
          go_ret
          exact ⟨by rw [HR.out]; rfl, by rw [HR.out]; exact ⟨F, D3, S3⟩⟩
        · rw [if_neg hz] at HR
          simp only [if_neg hz] at hac
          obtain ⟨k, rfl⟩ : ∃ k : Nat, n = (k : Int) := ⟨n.toNat, by omega⟩
          rw [Int.toNat_natCast] at HR
          have hk : k ≤ S.ps.length := by omega
          go_enter Try.func22, Try.ntmps22
          go_wp2_with fail
          refine hac.mono ?_
          rintro _ w3 ⟨rfl, D3, S3⟩
          obtain ⟨b1, d1, b2, d2, _, k1, k2, _, _, hf, R, P1, P2⟩ := D3.open
          have hpl := D3.lt
          clear hac h1 h4
          obtain ⟨W, v, hr, Q1, N1⟩ : ∃ W v, (Builtin.append_ #[47, 47] 47 #[.slice (some ⟨w3.heap.size, 0, none⟩) 0 0, .slice b1 k d1]).run Try.prog (w3.alloc (.cells #[] 9)) = .ok v W ∧ Pl W (Fresh w3) 9 1 v ((S.ps.take k).map textL) ∧ New w3 W := by
            rcases P1.cases with ⟨hv, he⟩ | ⟨g, c, hv, _⟩
            · have hps : S.ps = [] := List.map_eq_nil_iff.1 he
              have hk0 : k = 0 := by rw [hps] at hk; simpa using hk
              simp only [Value.slice.injEq] at hv
              obtain ⟨rfl, _, rfl⟩ := hv
              obtain ⟨v, W, h1, h2, h3⟩ := run_copied w3 47 9 47 (.string ⟨#[]⟩) 16 Try.underlying47 info9 rfl (by decide) none 0 [] (fun h => absurd h (by simp)) (fun u hu => by cases hu) (by simp)
              rw [hk0, List.take_zero]
              exact ⟨W, v, h1, h2, h3⟩
            · simp only [Value.slice.injEq] at hv
              obtain ⟨rfl, _, rfl⟩ := hv
              obtain ⟨v, W, h1, h2, h3⟩ := run_copied w3 47 9 47 (.string ⟨#[]⟩) 16 Try.underlying47 info9 rfl (by decide) (some ⟨g, 0, none⟩) d1 ((S.ps.take k).map fun t => Value.string (bs t)) (text_cells P1 k hk) (fun u hu => by obtain ⟨t, _, rfl⟩ := List.mem_map.1 hu; rfl)
                (by rw [List.length_map, List.length_take]; have := HD.out.ok.len; have := HD.out.ok.lim; omega)
              rw [texts_map] at h2
              rw [List.length_map, List.length_take, show min k S.ps.length = k by omega] at h1
              exact ⟨W, v, h1, h2, h3⟩
          have hlq : ((S.ps.take k).map textL).length = k := by rw [List.length_map, List.length_take]; omega
          obtain ⟨a', c', hv, _⟩ := Q1.form
          rw [hlq] at hv
          subst hv
          have RW := R.after N1
          have m1 : W.cell? ⟨p, 1, none⟩ = some (.slice b1 S.ps.length d1) := RW.cell 1
          have m2 := RW.frozen 1
          have hkd : (k : Int) ≤ (d1 : Int) := by
            obtain ⟨_, c9, hv, hc⟩ := P1.form
            simp only [Value.slice.injEq] at hv
            rw [List.length_map] at hc
            have h9 : S.ps.length ≤ c9 := hc
            have := hv.2.2
            omega
          have hk63 : (k : Int) ≤ (S.ps.length : Int) := by omega
          have k1' : w3.cell? ⟨p, 1, none⟩ = some (.slice b1 S.ps.length d1) := k1
          have HP : Hid (Pl w3 (fun g => F g ∧ g ≠ p ∧ (Value.slice b1 S.burn.ps.length d1).ownBlock ≠ some g) 82 2 (.slice b2 S.ws.length d2) (S.ws.map tellL)) := P2
          have HQ : Hid (Rd w3 F p S.burn ∧ Row w3 p #[.int .i64 (S.burn.lim : Int), .slice b1 S.burn.ps.length d1, .slice b2 S.burn.ws.length d2, .int .i64 S.burn.fuse, .bool S.burn.down] 50) := ⟨D3, R⟩
          have hfew := HD.out.ok.few
          clear D3 R P1 P2 hf k1 k2 RW
          go_wp2_with (refine wpList_appends (by rfl) _ _ 47 47 _ _ _ W (by rfl) (by rfl) (by rfl) (by rfl) hr ?_)
          clear hr m1 m2 k1'
          have hsW := N1.size
          obtain ⟨W4, hW4⟩ : ∃ W4, W4 = W.setCell ⟨p, 1, none⟩ (.slice a' k c') := ⟨_, rfl⟩
          rw [← hW4]
          have HW : Hid (W4 = W.setCell ⟨p, 1, none⟩ (.slice a' k c')) := hW4
          have B4 : ∀ b, b < w3.heap.size → b ≠ p → W4.heap[b]? = w3.heap[b]? := fun b hb hbp => by
            rw [hW4]
            exact (Below.heap_setCell _ _ _ _ hbp).trans (N1.block b hb)
          have R4 : Row W4 p #[.int .i64 (S.burn.lim : Int), .slice a' k c', .slice b2 S.burn.ws.length d2, .int .i64 S.burn.fuse, .bool S.burn.down] 50 := by
            rw [hW4]
            exact (HQ.out.2.after N1).set 1 _
          have P4 : Pl W4 (fun g => F g ∧ g ≠ p ∧ (Value.slice b1 S.burn.ps.length d1).ownBlock ≠ some g) 82 2 (.slice b2 S.ws.length d2) (S.ws.map tellL) := HP.out.of (fun b hb hlt => B4 b hlt hb.2.1) (fun _ h _ => h)
          clear hW4 B4
          go_loopw [6, 7] (fun v u wr => ∃ i : Nat, i ≤ S.ws.length ∧ u = .int .i64 (i : Int) ∧ Pl wr (Fresh W4) 82 2 v (((S.ws.take i).filter fun x => decide (x.1 < k)).map tellL) ∧ New W4 wr) (fun _ u _ => S.ws.length - (intOf u).toNat)
          case atStart => exact ⟨0, by omega, rfl, by simpa using Pl.nil W4 (Fresh W4) 82 2, New.refl _⟩
          case round =>
            obtain ⟨i, hi, rfl, Q, N⟩ := hrel
            have RR := R4.after N
            have k2 : wr.cell? ⟨p, 2, none⟩ = some (.slice b2 S.ws.length d2) := RR.cell 2
            by_cases hin : i < S.ws.length
            · have hin' : (i : Int) < (S.ws.length : Int) := by omega
              have PP := P4.after N
              obtain ⟨g2, _, e2, _⟩ := PP.full (by rw [List.length_map]; omega)
              simp only [Value.slice.injEq] at e2
              obtain ⟨rfl, hjunk, rfl⟩ := e2
              clear hjunk
              obtain ⟨y0, y1⟩ := PP.tell hin
              have hx := map_getD tellL S.ws i (0, []) hin
              have HT := takes_app tellL S.ws (fun x => decide (x.1 < k)) (0, []) hin
              obtain ⟨vv, hvv⟩ : ∃ m, (((S.ws.take i).filter fun x => decide (x.1 < k)).map tellL).length = m := ⟨_, rfl⟩
              have hvi : vv ≤ 1000 := by
                rw [← hvv, List.length_map]
                exact Nat.le_trans (List.length_filter_le _ _) (by rw [List.length_take]; omega)
              generalize S.ws.getD i (0, []) = x at hx HT y0 y1
              obtain ⟨xa, xd⟩ := x
              simp only at hx HT y0 y1
              have HT' : Hid (((S.ws.take (i + 1)).filter fun x => decide (x.1 < k)).map tellL = ((S.ws.take i).filter fun x => decide (x.1 < k)).map tellL ++ (if decide (xa < k) = true then [tellL (xa, xd)] else [])) := HT
              have HX : Hid ((S.ws.map tellL)[i]? = some (tellL (xa, xd))) := hx
              have HV : Hid ((((S.ws.take i).filter fun x => decide (x.1 < k)).map tellL).length = vv) := hvv
              clear HT hx hvv
              by_cases hlt : xa < k
              · have hlt' : (xa : Int) < (k : Int) := by omega
                rw [if_pos (by simpa using hlt)] at HT'
                generalize (((S.ws.take i).filter fun x => decide (x.1 < k)).map tellL) = es at Q HT' HV
                go_wp2_with (first
                  | refine wpList_load_pl (by rfl) 82 _ (by rfl) _ 82 2 g2 _ _ i _ _ _ PP HX.out (by rfl) Try.underlying82 rfl i82 ?_
                  | (refine wpList_build_one (by rfl) 48 _ (by rfl) Try.underlying48 _ _ info82 (tellL (xa, xd)).toArray (by rfl) rfl (by decide) (by decide) ?_; intro W3 R3 M3; have Q3 := Q.after M3)
                  | (refine wpList_append_pl Q3 (by rfl) _ _ 48 (by rfl) Try.underlying48 _ _ info82 rfl (by decide) wr.heap.size (tellL (xa, xd)) 82 R3 rfl (tellL_one _) (by rw [HV.out]; omega) (by decide) (by rfl) (by rfl) ?_; intro g3 cap3 W5 Q4 G4))
                refine ⟨⟨i + 1, by omega, by go_num, ?_, ?_⟩, by simp [intOf]; omega⟩
                · rw [HT'.out]
                  exact Q4.mono fun b hb _ => by
                    rcases hb with h | h
                    · exact h
                    · have := N.size
                      have := M3.size
                      show W4.heap.size ≤ b
                      omega
                · exact (N.trans M3).grown G4 fun k hk => Q.foot k hk
              · have hlt' : ¬ (xa : Int) < (k : Int) := by omega
                rw [if_neg (by simpa using hlt), List.append_nil] at HT'
                go_wp2_with fail
                exact ⟨⟨i + 1, by omega, by go_num, by rw [HT'.out]; exact Q, N⟩, by simp [intOf]; omega⟩
            · obtain rfl : i = S.ws.length := by omega
              rw [List.take_length] at Q
              have hs2 := RR.cell 2
              have hs3 := RR.frozen 2
              obtain ⟨a6, c6, rfl, _⟩ := Q.form
              have HF : Hid (RLeft F p w { S.burn with ps := S.ps.take k, ws := S.ws.filter fun x => decide (x.1 < k) } (wr.setCell ⟨p, 2, none⟩ (.slice a6 ((S.ws.filter fun x => decide (x.1 < k)).map tellL).length c6))) := by
                refine Rd.rebuilt S3 HQ.out.1 HQ.out.2 N1 Q1 ?_ ?_ (HQ.out.1.ok.shrunk k hk)
                · rw [← HW.out]; exact N
                · rw [← HW.out]; exact Q
              generalize (((S.ws.filter fun x => decide (x.1 < k)).map tellL).length) = m6 at HF Q ⊢
              clear Q RR hs2
              go_wp2_with fail
              go_ret
              refine ⟨by rw [HR.out]; rfl, ?_⟩
              rw [HR.out]
              exact HF.out
  · rw [hd] at h4
    rw [hd, if_pos rfl] at HR
    clear hac
    go_enter Try.func22, Try.ntmps22
    go_wp2_with fail
    go_ret
    exact ⟨by rw [HR.out]; rfl, by rw [HR.out]; exact ⟨F, HD.out, Step.refl _ _⟩⟩

end Go.Proofs.Ytamaijolggdakaa
