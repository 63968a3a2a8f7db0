/-
  What Sync and Grow tell, and what they leave.
-/
import Derived.Test.YtamaijolggdakaaWrite
namespace Go.Proofs.Ytamaijolggdakaa
open Go.RowKit

theorem Disk.newStable {w0 w W2 : World} {F : Nat → Prop} {p : Nat} {S : St} {v1 v2 v : Value} {ps : List (List UInt8)} {F' : Nat → Prop} (S0 : Step F F' w0 w) (D : Disk w F p S)
    (R : Row w p #[.int .i64 (S.lim : Int), v1, v2, .int .i64 S.fuse, .bool S.down] 73) (M2 : New w W2) (Q : Pl W2 (Fresh w) 77 256 v (ps.map cellsL)) (hps : ∀ q ∈ ps, q.length = 256) (hlen : ps.length ≤ S.lim) :
    Left F p w0 { S with ps := ps, ws := [] } ((W2.setCell ⟨p, 1, none⟩ v).setCell ⟨p, 2, none⟩ (.slice none 0 0)) := by
  have hpl := D.lt
  have e : ∀ b, b ≠ p → ((W2.setCell ⟨p, 1, none⟩ v).setCell ⟨p, 2, none⟩ (.slice none 0 0)).heap[b]? = W2.heap[b]? := fun b hb => (Below.heap_setCell _ _ _ _ hb).trans (Below.heap_setCell _ _ _ _ hb)
  refine ⟨Wide F w0 _, Disk.build (F := F) (w := w0) (v1 := v) (v2 := .slice none 0 0) (G1 := fun g => w.heap.size ≤ g) (G2 := fun _ => True) D.base ⟨hps, (by intro x hx; cases hx), D.ok.lim, hlen, Nat.zero_le _, D.ok.lo, D.ok.hi⟩ (((R.after M2).set 1 _).set 2 _) ?_ (Pl.nil _ _ _ _) ?_ (fun g hg => by cases hg), ?_⟩
  · exact Q.of (fun b hb _ => e b (by have : w.heap.size ≤ b := hb; omega)) (fun _ h _ => h)
  · intro g hg
    have : w.heap.size ≤ g := Q.foot g hg
    exact ⟨.inr (Nat.le_trans S0.size this), by omega⟩
  · exact ((((S0.wide (G := F) fun k hk => .inl hk).trans (Step.new M2)).trans (Step.setCell W2 (a := ⟨p, 1, none⟩) D.base _)).trans (Step.setCell _ (a := ⟨p, 2, none⟩) D.base _)).widen

theorem sync_nil (w : World) : Calls Try.prog 17 #[.pointer none] w fun e w' => e = .returned (.int .i64 1) ∧ w' = w := by
  go_enter Try.func17, Try.ntmps17
  go_wp2_with fail
  refine (ready_nil _).mono ?_
  rintro _ w1 ⟨rfl, rfl⟩
  go_wp2_with fail
  go_ret
  exact ⟨rfl, rfl⟩

set_option maxRecDepth 20000 in
set_option maxHeartbeats 1000000 in
theorem sync_any {w : World} {F : Nat → Prop} {p : Nat} {S : St} (D : Disk w F p S) :
    Calls Try.prog 17 #[.pointer (some ⟨p, 0, none⟩)] w fun e w' => e = .returned (.int .i64 S.sync.1) ∧ Left F p w S.sync.2 w' := by
  have hr := ready_any D
  have hac := act_any D
  have HD : Hid (Disk w F p S) := D
  clear D
  have HR : Hid (S.sync = if S.down then (2, S) else if S.fuse = 0 then (2, S.dead) else (0, { S.burn with ps := latest S.ps S.ws, ws := [] })) := rfl
  generalize S.sync = r at HR ⊢
  cases hd : S.down
  · rw [hd] at hr
    rw [hd, if_neg (by simp)] at HR
    by_cases hz : S.fuse = 0
    · rw [if_pos hz] at HR
      simp only [if_pos hz] at hac
      go_enter Try.func17, Try.ntmps17
      go_wp2_with fail
      refine hr.mono ?_
      rintro _ w1 ⟨rfl, rfl⟩
      go_wp2_with fail
      refine hac.mono ?_
      rintro _ w3 ⟨rfl, D3, S3⟩
      go_wp2_with fail
      go_ret
      exact ⟨by rw [HR.out]; rfl, by rw [HR.out]; exact ⟨F, D3, S3⟩⟩
    · rw [if_neg hz] at HR
      simp only [if_neg hz] at hac
      go_enter Try.func17, Try.ntmps17
      go_wp2_with fail
      refine hr.mono ?_
      rintro _ w1 ⟨rfl, rfl⟩
      go_wp2_with fail
      refine hac.mono ?_
      rintro _ w3 ⟨rfl, D3, S3⟩
      have hlt := latest_any D3
      obtain ⟨a1, c1, a2, c2, _, h1, h2, _, _, hf, R, P1, P2⟩ := D3.open
      have hpl := D3.lt
      clear h1 h2 hf P1 P2
      go_wp2_with fail
      refine hlt.mono ?_
      rintro _ W2 ⟨v, rfl, Q2, M2⟩
      have R2 := R.after M2
      have k1 : W2.cell? ⟨p, 1, none⟩ = some (.slice a1 S.burn.ps.length c1) := R2.cell 1
      have k2 : W2.cell? ⟨p, 2, none⟩ = some (.slice a2 S.burn.ws.length c2) := R2.cell 2
      have f1 := R2.frozen 1
      have f2 := R2.frozen 2
      have HQ : Hid (Pl W2 (Fresh w3) 77 256 v ((latest S.burn.ps S.burn.ws).map cellsL)) := Q2
      obtain ⟨av, cv, rfl, _⟩ := Q2.form
      clear Q2 R2
      go_wp2_with fail
      go_ret
      refine ⟨by rw [HR.out]; rfl, ?_⟩
      rw [HR.out]
      have hq := HQ.out
      rw [List.length_map] at hq
      exact Disk.newStable S3 D3 R M2 hq (D3.ok.latest _ (Nat.le_refl _)) (by rw [latest_length]; exact D3.ok.len)
  · rw [hd] at hr
    rw [hd, if_pos rfl] at HR
    clear hac
    go_enter Try.func17, Try.ntmps17
    go_wp2_with fail
    refine hr.mono ?_
    rintro _ w1 ⟨rfl, rfl⟩
    go_wp2_with fail
    go_ret
    exact ⟨by rw [HR.out]; rfl, by rw [HR.out]; exact Left.refl HD.out⟩

theorem Disk.addPage {w0 w W2 W3 : World} {F F0 : Nat → Prop} {p : Nat} {S : St} {v1 v2 : Value} {g3 m cap3 : Nat} {q : List UInt8} (S0 : Step F0 F w0 w) (h0 : F0 p) (D : Disk w F p S)
    (R : Row w p #[.int .i64 (S.lim : Int), v1, v2, .int .i64 S.fuse, .bool S.down] 73)
    (P2 : Pl w (fun g => F g ∧ g ≠ p ∧ v1.ownBlock ≠ some g) 80 257 v2 (S.ws.map waitL)) (P1 : Pl w (fun g => F g ∧ g ≠ p ∧ v2.ownBlock ≠ some g) 77 256 v1 (S.ps.map cellsL))
    (M2 : New w W2) (G3 : W2.grownBy W3 v1.ownBlock) (Q3 : Pl W3 (fun b => (F b ∧ b ≠ p ∧ v2.ownBlock ≠ some b) ∨ W2.heap.size ≤ b) 77 256 (.slice (some ⟨g3, 0, none⟩) m cap3) (S.ps.map cellsL ++ [cellsL q]))
    (hl : q.length = 256) (hlim : S.ps.length < S.lim) : Left F0 p w0 { S with ps := S.ps ++ [q] } (W3.setCell ⟨p, 1, none⟩ (.slice (some ⟨g3, 0, none⟩) m cap3)) := by
  have hpl := D.lt
  have hsz := M2.size
  have hR3 : Row W3 p _ 73 := (R.after M2).of (G3.block p (Nat.lt_of_lt_of_le hpl hsz) (fun e => (P1.foot p e.symm).2.1 rfl))
  have hg3 : g3 ≠ p ∧ v2.ownBlock ≠ some g3 ∧ (F g3 ∨ w.heap.size ≤ g3) := by
    rcases Q3.foot g3 rfl with ⟨h1, h2, h3⟩ | h
    · exact ⟨h2, h3, .inl h1⟩
    · refine ⟨by omega, fun e => ?_, .inr (by omega)⟩
      have := P2.lt e
      omega
  have e : ∀ b, b ≠ p → (W3.setCell ⟨p, 1, none⟩ (.slice (some ⟨g3, 0, none⟩) m cap3)).heap[b]? = W3.heap[b]? := fun b hb => Below.heap_setCell _ _ _ _ hb
  have hF : ∀ g, F g ∨ w.heap.size ≤ g → F0 g ∨ w0.heap.size ≤ g := fun g h => by
    rcases h with h | h
    · exact S0.foot g h
    · exact .inr (Nat.le_trans S0.size h)
  refine ⟨Wide F0 w0 (W3.setCell ⟨p, 1, none⟩ (.slice (some ⟨g3, 0, none⟩) m cap3)), Disk.build (F := F0) (w := w0) (v1 := .slice (some ⟨g3, 0, none⟩) m cap3) (v2 := v2) (G1 := fun g => g = g3) (G2 := fun g => v2.ownBlock = some g) h0 ⟨?_, ?_, D.ok.lim, ?_, D.ok.few, D.ok.lo, D.ok.hi⟩ (hR3.set 1 _) ?_ ?_ ?_ ?_, ?_⟩
  · intro x hx
    rcases List.mem_append.1 hx with h | h
    · exact D.ok.page x h
    · obtain rfl : x = q := by simpa using h
      exact hl
  · intro x hx
    have := D.ok.wait x hx
    exact ⟨by show x.1 < (S.ps ++ [q]).length; rw [List.length_append]; omega, this.2⟩
  · show (S.ps ++ [q]).length ≤ S.lim
    rw [List.length_append, List.length_singleton]; omega
  · show Pl _ _ 77 256 _ ((S.ps ++ [q]).map cellsL)
    rw [List.map_append]
    exact (Q3.refoot (G := fun g => g = g3) fun g hg => by cases hg; rfl).of (fun b hb _ => e b (hb ▸ hg3.1)) (fun _ h _ => h)
  · exact ((P2.refoot (G := fun g => v2.ownBlock = some g) fun _ h => h).after M2).of (fun b hb hlt => (e b (P2.foot b hb).2.1).trans (G3.block b hlt fun h => (P1.foot b h.symm).2.2 hb)) (fun _ h _ => h)
  · intro g hg
    obtain rfl : g3 = g := by cases hg; rfl
    exact ⟨hF _ hg3.2.2, hg3.1⟩
  · intro g hg
    refine ⟨hF _ (.inl (P2.foot g hg).1), (P2.foot g hg).2.1, fun h => ?_⟩
    have : g3 = g := by cases h; rfl
    exact hg3.2.1 (this ▸ hg)
  · exact (((S0.trans (Step.new M2)).trans (Step.grown G3 fun k hk => (P1.foot k hk).1)).trans (Step.setCell W3 (a := ⟨p, 1, none⟩) D.base _)).widen
theorem Disk.turned {w : World} {F : Nat → Prop} {p : Nat} {v1 v2 : Value} {es1 es2 : List (List Value)} (P1 : Pl w (fun g => F g ∧ g ≠ p) 77 256 v1 es1) (P2 : Pl w (fun g => F g ∧ g ≠ p ∧ v1.ownBlock ≠ some g) 80 257 v2 es2) :
    Pl w (fun g => F g ∧ g ≠ p ∧ v2.ownBlock ≠ some g) 77 256 v1 es1 := P1.refoot fun g hg => ⟨(P1.foot g hg).1, (P1.foot g hg).2, fun h => (P2.foot g h).2.2 hg⟩
theorem built77 : Try.prog.built 77 [] = some (cellsL zeros).toArray := by kernel_rfl
theorem info77_size : (Value.agg (cellsL zeros).toArray).cells.size = 256 := by show (cellsL zeros).toArray.size = 256; rw [cellsL_size, zeros_length]
theorem wpList_build_zero {w : World} {ops : Array Oper} {rest : List Oper} {o : Oper} {a : Act} {Q : Exit → Act → World → Prop} (hgd : o.guard = none) (ho : o.op = .build 77 #[]) (h : wpList Try.prog ops Q rest (a.put o.dst (.agg (cellsL zeros).toArray)) w) : wpList Try.prog ops Q (o :: rest) a w := by
  refine wpList_run hgd _ w ?_ h
  unfold execOp
  simp only [ho, List.map_toArray, List.map_nil, Sem.run_bind, run_build w 77 #[] _ built77, Result.andThen_ok, Sem.run_pure]
theorem growTo_length {ps : List (List UInt8)} {m : Nat} (h : ps.length ≤ m) : (growTo ps m).length = m := by unfold growTo; rw [List.length_append, List.length_replicate]; omega
theorem growTo_next {ps : List (List UInt8)} {m : Nat} (h : ps.length ≤ m) : growTo ps m ++ [zeros] = growTo ps (m + 1) := by
  unfold growTo
  rw [show m + 1 - ps.length = (m - ps.length) + 1 by omega, List.replicate_succ', List.append_assoc]
theorem growTo_same {ps : List (List UInt8)} {m : Nat} (h : m ≤ ps.length) : growTo ps m = ps := by unfold growTo; rw [show m - ps.length = 0 by omega]; simp
/-- How long the file is, by its cell. -/
def longAt (w : World) (p : Nat) : Nat := match w.cell? ⟨p, 1, none⟩ with | some (.slice _ l _) => l | _ => 0

theorem grow_nil (n : Int) (w : World) : Calls Try.prog 19 #[.pointer none, .int .i64 n] w fun e w' => e = .returned (.int .i64 1) ∧ w' = w := by
  go_enter Try.func19, Try.ntmps19
  go_wp2_with fail
  refine (ready_nil _).mono ?_
  rintro _ w1 ⟨rfl, rfl⟩
  go_wp2_with fail
  go_ret
  exact ⟨rfl, rfl⟩

set_option maxRecDepth 20000 in
set_option maxHeartbeats 2000000 in
theorem grow_any {w : World} {F : Nat → Prop} {p : Nat} {S : St} (D : Disk w F p S) (n : Int) :
    Calls Try.prog 19 #[.pointer (some ⟨p, 0, none⟩), .int .i64 n] w fun e w' => e = .returned (.int .i64 (S.grow n).1) ∧ Left F p w (S.grow n).2 w' := by
  have hr := ready_any D
  have hac := act_any D
  have HD : Hid (Disk w F p S) := D
  obtain ⟨_, _, _, _, hl0, _⟩ := D.open
  clear D
  have HR : Hid (S.grow n = if S.down then (2, S) else if n < 0 then (1, S) else if (S.lim : Int) < n then (3, S) else if S.fuse = 0 then (2, S.dead) else (0, { S.burn with ps := growTo S.ps n.toNat })) := rfl
  generalize S.grow n = r at HR ⊢
  cases hd : S.down
  · rw [hd] at hr
    rw [hd, if_neg (by simp)] at HR
    by_cases h0 : n < 0
    · rw [if_pos h0] at HR
      clear hac
      go_enter Try.func19, Try.ntmps19
      go_wp2_with fail
      refine hr.mono ?_
      rintro _ w1 ⟨rfl, rfl⟩
      go_wp2_with fail
      go_ret
      exact ⟨by rw [HR.out]; rfl, by rw [HR.out]; exact Left.refl HD.out⟩
    · rw [if_neg h0] at HR
      by_cases h1 : (S.lim : Int) < n
      · rw [if_pos h1] at HR
        clear hac
        go_enter Try.func19, Try.ntmps19
        go_wp2_with fail
        refine hr.mono ?_
        rintro _ w1 ⟨rfl, rfl⟩
        go_wp2_with fail
        go_ret
        exact ⟨by rw [HR.out]; rfl, by rw [HR.out]; exact Left.refl HD.out⟩
      · rw [if_neg h1] at HR
        by_cases hz : S.fuse = 0
        · rw [if_pos hz] at HR
          simp only [if_pos hz] at hac
          go_enter Try.func19, Try.ntmps19
          go_wp2_with fail
          refine hr.mono ?_
          rintro _ w1 ⟨rfl, rfl⟩
          go_wp2_with fail
          refine hac.mono ?_
          rintro _ w3 ⟨rfl, D3, S3⟩
          go_wp2_with fail
          go_ret
          exact ⟨by rw [HR.out]; rfl, by rw [HR.out]; exact ⟨F, D3, S3⟩⟩
        · rw [if_neg hz] at HR
          simp only [if_neg hz] at hac
          obtain ⟨k, rfl⟩ : ∃ k : Nat, n = (k : Int) := ⟨n.toNat, by omega⟩
          rw [Int.toNat_natCast] at HR
          go_enter Try.func19, Try.ntmps19
          go_wp2_with fail
          refine hr.mono ?_
          rintro _ w1 ⟨rfl, rfl⟩
          go_wp2_with fail
          refine hac.mono ?_
          rintro _ w3 ⟨rfl, D3, S3⟩
          go_wp2_with fail
          go_loopw [25] (fun _ wr => ∃ m : Nat, S.ps.length ≤ m ∧ (m = S.ps.length ∨ m ≤ k) ∧ Left F p w1 { S.burn with ps := growTo S.ps m } wr) (fun _ wr => k - longAt wr p)
          case atStart => exact ⟨S.ps.length, Nat.le_refl _, .inl rfl, F, by rw [growTo_same (Nat.le_refl _)]; exact D3, S3⟩
          case round =>
            clear D3 S3
            obtain ⟨m, hm1, hm2, F', D4, S4⟩ := hrel
            have hL : (growTo S.ps m).length = m := growTo_length hm1
            have hlim : S.lim ≤ 200 := HD.out.ok.lim
            have HN : Hid (growTo S.ps m ++ [zeros] = growTo S.ps (m + 1)) := growTo_next hm1
            have HE : Hid (¬ m < k → growTo S.ps m = growTo S.ps k) := fun h => by
              rcases hm2 with rfl | h2
              · rw [growTo_same (Nat.le_refl _), growTo_same (by omega)]
              · rw [show m = k by omega]
            obtain ⟨lp, hlp⟩ : ∃ lp, growTo S.ps m = lp := ⟨_, rfl⟩
            rw [hlp] at D4 hL HN HE
            obtain ⟨a1, c1, a2, c2, _, k1, _, _, _, hf, R, P1, P2⟩ := D4.open
            simp only at k1 R P1 P2
            rw [hL] at k1 R P1 P2
            have hlong : longAt wr p = m := by unfold longAt; rw [k1]
            have hpl := D4.lt
            have HD4 : Hid (Disk wr F' p { S.burn with ps := lp }) := D4
            clear hlp
            by_cases hlt : m < k
            · have hlt' : (m : Int) < (k : Int) := by omega
              have P1t := Disk.turned P1 P2
              go_wp2_with (first
                | refine wpList_build_zero (by rfl) (by rfl) ?_
                | (refine wpList_build_one (by rfl) 71 _ (by rfl) Try.underlying71 _ _ info77 (cellsL zeros).toArray (by rfl) (by rw [cellsL_size, zeros_length]) (by decide) (by decide) ?_; intro W3 R3 M3; have Q3 := P1t.after M3)
                | (refine wpList_append_pl Q3 (by rfl) _ _ 71 (by rfl) Try.underlying71 _ _ info77 info77_size (by decide) wr.heap.size (cellsL zeros) 77 R3 (by rw [cellsL_length, zeros_length]) (cellsL_one _) (by rw [List.length_map]; omega) (by decide) (by rfl) (by rfl) ?_; intro g3 cap3 W4 Q4 G4; have R4 : Row W4 p _ 73 := (R.after M3).of (G4.block p (Nat.lt_of_lt_of_le hpl M3.size) (fun e => (P1t.foot p e.symm).2.1 rfl)); have hs2 := R4.cell 1; have hf2 := R4.frozen 1; simp only [List.getElem?_toArray, List.getElem?_cons_succ, List.getElem?_cons_zero] at hs2))
              rw [List.length_map, hL] at Q4
              refine ⟨⟨m + 1, by omega, .inr (by omega), ?_⟩, ?_⟩
              · rw [← HN.out]
                exact Disk.addPage S4 HD.out.base HD4.out R P2 P1t M3 G4 Q4 zeros_length (by show lp.length < S.lim; omega)
              · have hnew : longAt (W4.setCell ⟨p, 1, none⟩ (.slice (some ⟨g3, 0, none⟩) (m + 1) cap3)) p = m + 1 := by
                  unfold longAt
                  rw [World.cell?_setCell_same _ _ _ hs2]
                rw [hnew, hlong]
                omega
            · have hlt' : ¬ (m : Int) < (k : Int) := by omega
              go_wp2_with fail
              go_ret
              refine ⟨by rw [HR.out]; rfl, ?_⟩
              rw [HR.out, ← HE.out (by omega)]
              exact ⟨F', HD4.out, S4⟩
  · rw [hd] at hr
    rw [hd, if_pos rfl] at HR
    clear hac
    go_enter Try.func19, Try.ntmps19
    go_wp2_with fail
    refine hr.mono ?_
    rintro _ w1 ⟨rfl, rfl⟩
    go_wp2_with fail
    go_ret
    exact ⟨by rw [HR.out]; rfl, by rw [HR.out]; exact Left.refl HD.out⟩

end Go.Proofs.Ytamaijolggdakaa
