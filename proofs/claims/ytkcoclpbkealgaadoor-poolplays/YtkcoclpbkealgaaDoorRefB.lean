/-
  What the document's own disk leaves behind Write, and what its Pages tells.
-/
import Derived.Test.YtkcoclpbkealgaaDoorRefA
namespace Go.Proofs.YtkcoclpbkealgaaDoor
open Go.RowKit
set_option maxRecDepth 20000

theorem tellL_length (x : Nat × List UInt8) : (tellL x).length = 2 := rfl
theorem tellL_one (x : Nat × List UInt8) : ∀ v ∈ tellL x, v.oneCell' = true := fun v hv => by
  unfold tellL at hv
  rcases List.mem_cons.1 hv with rfl | hv
  · rfl
  · obtain rfl : v = .string (bs x.2) := by simpa using hv
    rfl
theorem textL_one (x : List UInt8) : ∀ v ∈ textL x, v.oneCell' = true := fun v hv => by
  obtain rfl : v = .string (bs x) := by simpa [textL] using hv
  rfl
theorem wpList_build82 {w : World} {ops : Array Oper} {rest : List Oper} {o : Oper} {a : Act} {Q : Exit → Act → World → Prop} (hgd : o.guard = none) (x y : Operand) (ho : o.op = .build 76 #[(0, x), (1, y)]) (n : Nat) (l : List UInt8) (hx : a.eval x = .int .i64 (n : Int)) (hy : a.eval y = .string (bs l))
    (h : wpList Tryd.prog ops Q rest (a.put o.dst (.agg (tellL (n, l)).toArray)) w) : wpList Tryd.prog ops Q (o :: rest) a w :=
  wpList_run hgd _ w (exec_build2 ho hx hy (run_build w 76 _ _ (built82 (n : Int) (bs l)))) h
theorem wpList_build_cell {w : World} {ops : Array Oper} {rest : List Oper} {o : Oper} {a : Act} {Q : Exit → Act → World → Prop} (hgd : o.guard = none) (x : Operand) (ho : o.op = .buildSlice 28 1 #[(0, x)]) (l : List UInt8) (hx : a.eval x = .string (bs l))
    (h : ∀ W', Row W' w.heap.size (textL l).toArray 9 → New w W' → wpList Tryd.prog ops Q rest (a.put o.dst (.slice (some ⟨w.heap.size, 0, none⟩) 1 1)) W') : wpList Tryd.prog ops Q (o :: rest) a w :=
  wpList_run hgd _ _ (exec_buildSlice ho hx (run_buildCell w 28 9 (.string (bs l)) _ _ Tryd.underlying28 info9 rfl)) (h _ (Row.new w _ 9) ((New.refl w).alloc _))

set_option maxRecDepth 20000 in
set_option maxHeartbeats 2000000 in
theorem refwrite_any {w : World} {F : Nat → Prop} {p : Nat} {S : St} (D : Rd w F p S) (at_ : Int) (s : ByteArray) (hfew : S.ws.length < 1000) :
    Calls Tryd.prog 51 #[.pointer (some ⟨p, 0, none⟩), .int .i64 at_, .string s] w fun e w' => e = .returned (.int .i64 (S.write at_ (L s)).1) ∧ RLeft F p w (S.write at_ (L s)).2 w' := by
  have hac := refact_any D
  obtain ⟨a1, c1, a2, c2, h0, h1, h2, h3, h4, hf, _⟩ := D.open
  have HD : Hid (Rd w F p S) := D
  clear D hf
  have HR : Hid (S.write at_ (L s) = if S.down then (2, S) else if (L s).length ≠ 256 then (1, S) else if ¬ (0 ≤ at_ ∧ at_ < S.ps.length) then (4, S) else if S.fuse = 0 then (2, S.dead) else (0, { S.burn with ws := S.ws ++ [(at_.toNat, L s)] })) := rfl
  generalize S.write at_ (L s) = r at HR ⊢
  cases hd : S.down
  · rw [hd] at h4
    rw [hd, if_neg (by simp)] at HR
    by_cases hs : s.size = 256
    · have hL : (L s).length = 256 := by rw [L_size, hs]
      rw [if_neg (by rw [hL]; decide)] at HR
      have hs' : (s.size : Int) = 256 := by omega
      by_cases hin : 0 ≤ at_ ∧ at_ < S.ps.length
      · rw [if_neg (by simpa using hin)] at HR
        obtain ⟨n, rfl⟩ : ∃ n : Nat, at_ = (n : Int) := ⟨at_.toNat, by omega⟩
        have hn : n < S.ps.length := by omega
        rw [Int.toNat_natCast] at HR
        have hk1 : ¬ (n : Int) < 0 := by omega
        have hk2 : (n : Int) < (S.ps.length : Int) := hin.2
        have hk3 : ¬ (S.ps.length : Int) ≤ (n : Int) := by omega
        clear hin
        by_cases hz : S.fuse = 0
        · rw [if_pos hz] at HR
          simp only [if_pos hz] at hac
          go_enter Tryd.func51, Tryd.ntmps51
          go_wp2_with fail
          refine hac.mono ?_
          rintro _ w3 ⟨rfl, D3, S3⟩
          go_wp2_with fail
          go_ret
          exact ⟨by rw [HR.out]; rfl, by rw [HR.out]; exact ⟨F, D3, S3⟩⟩
        · rw [if_neg hz] at HR
          simp only [if_neg hz] at hac
          have hbs : s = bs (L s) := (bs_L s).symm
          obtain ⟨l, hl⟩ : ∃ l, L s = l := ⟨_, rfl⟩
          rw [hl] at hbs hL HR
          subst hbs
          clear hl
          go_enter Tryd.func51, Tryd.ntmps51
          go_wp2_with fail
          refine hac.mono ?_
          rintro _ w3 ⟨rfl, D3, S3⟩
          obtain ⟨b1, d1, b2, d2, _, _, k2, _, _, hf, R, P1, P2⟩ := D3.open
          have hpl := D3.lt
          have HD3 : Hid (Rd w3 F p S.burn) := D3
          have hlen : S.burn.ws.length = S.ws.length := rfl
          clear D3 hf hac h0 h1 h2 h3 h4
          go_wp2_with (first
            | refine wpList_build82 (by rfl) _ _ (by rfl) n l (by rfl) (by rfl) ?_
            | (refine wpList_build_one (by rfl) 60 _ (by rfl) Tryd.underlying60 _ _ info82 (tellL (n, l)).toArray (by rfl) rfl (by decide) (by decide) ?_; intro W3 R3 M3; have Q3 := P2.after M3)
            | (refine wpList_append_pl Q3 (by rfl) _ _ 60 (by rfl) Tryd.underlying60 _ _ info82 rfl (by decide) w3.heap.size (tellL (n, l)) 76 R3 rfl (tellL_one _) (by rw [List.length_map]; omega) (by decide) (by rfl) (by rfl) ?_; intro g3 cap3 W4 Q4 G4; have R4 : Row W4 p _ 63 := (R.after M3).of (G4.block p (Nat.lt_of_lt_of_le hpl M3.size) (fun e => (P2.foot p e.symm).2.1 rfl)); have hs2 := R4.cell 2; have hs3 := R4.frozen 2))
          go_ret
          refine ⟨by rw [HR.out]; rfl, ?_⟩
          rw [HR.out]
          rw [List.length_map] at Q4
          exact Rd.addWait S3 HD3.out R P1 P2 M3 G4 Q4 hn hL hfew
      · rw [if_pos (by simpa using hin)] at HR
        by_cases hlo : at_ < 0
        · clear hac hin
          go_enter Tryd.func51, Tryd.ntmps51
          go_wp2_with fail
          go_ret
          exact ⟨by rw [HR.out]; rfl, by rw [HR.out]; exact ⟨F, HD.out, Step.refl _ _⟩⟩
        · have hhi : (S.ps.length : Int) ≤ at_ := by omega
          clear hac hin
          go_enter Tryd.func51, Tryd.ntmps51
          go_wp2_with fail
          go_ret
          exact ⟨by rw [HR.out]; rfl, by rw [HR.out]; exact ⟨F, HD.out, Step.refl _ _⟩⟩
    · rw [if_pos (by rw [L_size]; simpa using hs)] at HR
      have hs' : ¬ (s.size : Int) = 256 := by omega
      clear hac
      go_enter Tryd.func51, Tryd.ntmps51
      go_wp2_with fail
      go_ret
      exact ⟨by rw [HR.out]; rfl, by rw [HR.out]; exact ⟨F, HD.out, Step.refl _ _⟩⟩
  · rw [hd] at h4
    rw [hd, if_pos rfl] at HR
    clear hac
    go_enter Tryd.func51, Tryd.ntmps51
    go_wp2_with fail
    go_ret
    exact ⟨by rw [HR.out]; rfl, by rw [HR.out]; exact ⟨F, HD.out, Step.refl _ _⟩⟩

theorem take_next {α : Type} (l : List α) (d : α) {i : Nat} (h : i < l.length) : l.take (i + 1) = l.take i ++ [l.getD i d] := by
  rw [List.take_add_one, List.getElem?_eq_getElem h, List.getD_eq_getElem?_getD, List.getElem?_eq_getElem h]; rfl
set_option maxRecDepth 20000 in
set_option maxHeartbeats 2000000 in
theorem refpages_any {w : World} {F : Nat → Prop} {p : Nat} {S : St} (D : Rd w F p S) :
    Calls Tryd.prog 35 #[.pointer (some ⟨p, 0, none⟩)] w fun e w' => ∃ v, e = .returned v ∧ Pl w' (Fresh w) 9 1 v ((latest S.ps S.ws).map textL) ∧ New w w' := by
  have HD : Hid (Rd w F p S) := D
  have hll := latest_length S.ps S.ws
  have hlen : S.ps.length ≤ 200 := Nat.le_trans D.ok.len D.ok.lim
  clear D
  obtain ⟨lt, hlt⟩ : ∃ lt, latest S.ps S.ws = lt := ⟨_, rfl⟩
  have HE : Hid (latest S.ps S.ws = lt) := hlt
  rw [hlt] at hll ⊢
  clear hlt
  go_enter Tryd.func35, Tryd.ntmps35
  go_wp2_with fail
  go_loopw [3, 4] (fun v u wr => ∃ i : Nat, i ≤ S.ps.length ∧ u = .int .i64 (i : Int) ∧ Pl wr (Fresh w) 9 1 v ((lt.take i).map textL) ∧ New w wr) (fun _ u _ => S.ps.length - (intOf u).toNat)
  case atStart => exact ⟨0, by omega, rfl, by simpa using Pl.nil w (Fresh w) 9 1, New.refl w⟩
  case round =>
    obtain ⟨i, hi, rfl, Q, N⟩ := hrel
    have D1 := HD.out.after N
    obtain ⟨a1, c1, a2, c2, _, k1, _, _, _, hf, _⟩ := D1.open
    by_cases hin : i < S.ps.length
    · have hin' : (i : Int) < (S.ps.length : Int) := by omega
      have hat := refat_any D1 i hin
      rw [HE.out] at hat
      have HT : Hid ((lt.take (i + 1)).map textL = (lt.take i).map textL ++ [textL (lt.getD i [])]) := by
        show _ = _
        rw [take_next lt [] (by omega), List.map_append]; rfl
      generalize lt.getD i [] = d at hat HT
      have hlq : ((lt.take i).map textL).length = i := by rw [List.length_map, List.length_take]; omega
      have hmin : min i lt.length = i := by omega
      clear hf D1
      go_wp2_with fail
      refine hat.mono ?_
      rintro _ w1 ⟨rfl, rfl⟩
      clear hat k1
      go_wp2_with (first
        | (refine wpList_build_cell (by rfl) _ (by rfl) d (by rfl) ?_; intro W3 R3 M3; have Q3 := Q.after M3)
        | (refine wpList_append_pl Q3 (by rfl) _ _ 28 (by rfl) Tryd.underlying28 _ _ info9 rfl (by decide) w1.heap.size (textL d) 9 R3 rfl (textL_one _) (by rw [hlq]; omega) (by decide) (by rfl) (by rfl) ?_; intro g3 cap3 W4 Q4 G4))
      rw [hlq] at Q4
      refine ⟨⟨i + 1, by omega, by go_num, ?_, ?_⟩, by simp [intOf]; omega⟩
      · rw [HT.out]
        exact Q4.mono fun b hb _ => by
          rcases hb with h | h
          · exact h
          · have := N.size
            have := M3.size
            show w.heap.size ≤ b
            omega
      · exact (N.trans M3).grown G4 fun k hk => Q.foot k hk
    · obtain rfl : i = S.ps.length := by omega
      have hT : lt.take S.ps.length = lt := List.take_of_length_le (by omega)
      rw [hT] at Q
      clear hf D1
      go_wp2_with fail
      go_ret
      exact ⟨_, rfl, Q, N⟩

end Go.Proofs.YtkcoclpbkealgaaDoor
