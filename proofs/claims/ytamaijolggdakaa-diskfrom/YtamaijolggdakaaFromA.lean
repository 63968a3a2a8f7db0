/-
  DiskFrom walked: a disk from pages has them; none is made of too many, or of texts that are no pages.
-/
import Derived.Test.YtamaijolggdakaaRefFrom
namespace Go.Proofs.Ytamaijolggdakaa
open Go.RowKit

theorem own_read {lim : Nat} {ts : List ByteArray} (i : Nat) (h : i < ts.length) : St.read ⟨lim, ts.map L, [], -1, false⟩ (i : Int) = (0, L (ts.getD i ⟨#[]⟩)) := by
  unfold St.read
  rw [if_neg Bool.false_ne_true, if_neg (by show ¬ ¬ (_ ∧ (i : Int) < ((ts.map L).length : Int)); rw [List.length_map]; omega), Int.toNat_natCast]
  show (0, (ts.map L).getD i []) = _
  rw [List.getD_eq_getElem?_getD, List.getElem?_map, List.getElem?_eq_getElem h, List.getD_eq_getElem?_getD, List.getElem?_eq_getElem h]; rfl
theorem own_end {lim : Nat} {ts : List ByteArray} : St.read ⟨lim, ts.map L, [], -1, false⟩ (ts.length : Int) = (4, []) := by
  unfold St.read
  rw [if_neg Bool.false_ne_true, if_pos (by show ¬ (_ ∧ (ts.length : Int) < ((ts.map L).length : Int)); rw [List.length_map]; omega)]
theorem own_texts (ts : List ByteArray) : (latest (ts.map L) []).map textL = ts.map fun t => [Value.string t] := by
  rw [latest_nil, List.map_map]
  apply List.map_congr_left
  intro t _
  show [Value.string (bs (L t))] = _
  rw [bs_L]

set_option maxRecDepth 40000 in
set_option maxHeartbeats 8000000 in
theorem from_walk (a : Option Addr) (c : Nat) (l : List ByteArray) (lim : Int) (w : World) (hT : Texts w a l) (h63 : l.length ≤ 9223372036854775807) :
    Calls Try.prog 4 #[.slice a l.length c, .int .i64 lim] w fun e w' => e = .returned (.bool true) ∧ New w w' := by
  have HT : Hid (Texts w a l) := hT
  obtain ⟨n, hnn⟩ : ∃ n, l.length = n := ⟨_, rfl⟩
  have HN : Hid (l.length = n) := hnn
  have hlong := long_any w a c l hT h63
  rw [hnn] at h63 hlong ⊢
  clear hT hnn
  go_enter Try.func4, Try.ntmps4
  go_wp2_with fail
  refine hlong.mono ?_
  rintro _ w1 ⟨b, rfl, rfl, hb⟩
  cases b with
  | true =>
    clear hb hlong
    go_wp2_with fail
    refine (wakes_any _).mono ?_
    rintro _ w1 ⟨rfl, b1⟩
    go_wp2_with fail
    go_ret
    exact ⟨rfl, b1⟩
  | false =>
    have hn6 : n ≤ 60000 := hb rfl
    obtain ⟨v, W, hr, hP, hN⟩ := run_copied w1 47 9 47 (.string ⟨#[]⟩) 16 Try.underlying47 info9 rfl (by decide) a c (l.map Value.string) (texts_cells HT.out) (fun u hu => by obtain ⟨t, _, rfl⟩ := List.mem_map.1 hu; rfl) (by rw [List.length_map]; have := HN.out; omega)
    rw [List.length_map, HN.out] at hr
    rw [List.map_map] at hP
    obtain ⟨a1, c1, hv, _⟩ := hP.form
    rw [List.length_map, HN.out] at hv
    subst hv
    have hT1 := (Pl.texts hP).1
    have c2 := from_any W a1 c1 l hT1 lim (by have := HN.out; omega)
    rw [HN.out] at c2
    have HX : Hid (Texts W a1 l ∧ New w1 W) := ⟨hT1, hN⟩
    clear hlong hb hP hT1 hN
    go_wp2_with (refine wpList_appends (by rfl) _ _ 47 47 _ _ _ W (by rfl) (by rfl) (by rfl) (by rfl) hr ?_)
    refine c2.mono ?_
    rintro e w2 ⟨N2, hm⟩
    have c3 := reffrom_any w2 a c l ((HT.out.after HX.out.2).after N2) lim (by have := HN.out; omega)
    rw [HN.out] at c3
    cases hfb : fromB l lim with
    | false =>
      rw [hfb] at hm c3
      obtain rfl := hm
      clear c2 hr
      go_wp2_with fail
      refine c3.mono ?_
      rintro _ w3 ⟨v, rfl, N3⟩
      clear c3
      go_wp2_with fail
      refine (wakes_any _).mono ?_
      rintro _ w4 ⟨rfl, N4⟩
      go_wp2_with fail
      go_ret
      exact ⟨rfl, ((HX.out.2.trans N2).trans N3).trans N4⟩
    | true =>
      rw [hfb] at hm c3
      obtain ⟨p, F, rfl, D, hF⟩ := hm
      clear c2 hr
      go_wp2_with fail
      refine c3.mono ?_
      rintro _ w3 ⟨v, rfl, N3⟩
      have D3 := D.after N3
      have HM : Hid (New w1 w3) := (HX.out.2.trans N2).trans N3
      have HY : Hid (Texts w3 a1 l) := (HX.out.1.after N2).after N3
      clear c3 D N3 hF
      go_wp2_with fail
      go_loopw [10] (fun u wr => ∃ i : Nat, u = .int .i64 (i : Int) ∧ i ≤ n ∧ New w3 wr) (fun u _ => n - (intOf u).toNat)
      case atStart => exact ⟨0, rfl, by omega, New.refl _⟩
      case round =>
        obtain ⟨i, rfl, hi, N⟩ := hrel
        have D4 := D3.after N
        by_cases hin : i < n
        · have hin' : (i : Int) < (n : Int) := by omega
          have c4 := read_any D4 (i : Int)
          rw [own_read i (by have := HN.out; omega), bs_L] at c4
          obtain ⟨x, rfl, hx⟩ := ((HT.out.after HM.out).after N) (by have := HN.out; omega)
          have hx0 := hx i (by have := HN.out; omega)
          generalize l.getD i ⟨#[]⟩ = s at hx0 c4
          clear hx
          go_wp2_with fail
          refine c4.mono ?_
          rintro _ w5 ⟨rfl, N5⟩
          have hx1 := (N5.cell (World.block_lt_of_cell? _ _ hx0)).trans hx0
          clear c4 hx0
          go_wp2_with fail
          exact ⟨⟨i + 1, by go_num, by omega, N.trans N5⟩, by simp [intOf]; omega⟩
        · obtain rfl : i = n := by omega
          have c4 := read_any D4 (i : Int)
          rw [← HN.out, own_end, HN.out] at c4
          go_wp2_with fail
          refine c4.mono ?_
          rintro _ w5 ⟨rfl, N5⟩
          have D5 := D4.after N5
          have c5 := pages_any D5
          clear c4
          go_wp2_with fail
          refine c5.mono ?_
          rintro _ w6 ⟨v6, rfl, P6, N6⟩
          change Pl w6 _ 9 1 v6 ((latest (l.map L) []).map textL) at P6
          rw [own_texts] at P6
          obtain ⟨a6, c6, hv6, _⟩ := P6.form
          rw [List.length_map, HN.out] at hv6
          subst hv6
          have NN6 : New w1 w6 := ((HM.out.trans N).trans N5).trans N6
          have t6 := texts_any w6 a6 a c6 c l l (Pl.texts P6).1 (HT.out.after NN6) (by have := HN.out; omega)
          rw [HN.out, decide_eq_true rfl] at t6
          clear c5 P6
          go_wp2_with fail
          refine t6.mono ?_
          rintro _ w7 ⟨rfl, N7⟩
          have D7 := (D5.after N6).after N7
          have l7 := limit_any D7
          have hlim : ((lim.toNat : Nat) : Int) = lim := by
            have : fromB l lim = true := hfb
            unfold fromB at this
            rw [Bool.and_eq_true, decide_eq_true_eq] at this
            omega
          simp only [hlim] at l7
          clear t6
          go_wp2_with fail
          refine l7.mono ?_
          rintro _ w8 ⟨rfl, rfl⟩
          have c8 := waiting_any D7
          clear l7
          go_wp2_with fail
          refine c8.mono ?_
          rintro _ w9 ⟨v9, rfl, P9, N9⟩
          obtain ⟨a9, c9, hv9, _⟩ := P9.form
          subst hv9
          have t9 := texts_any w9 a1 a c1 c l l ((((HY.out.after N).after N5).after (N6.trans N7)).after N9) (HT.out.after ((NN6.trans N7).trans N9)) (by have := HN.out; omega)
          rw [HN.out, decide_eq_true rfl] at t9
          clear c8 P9
          go_wp2_with fail
          refine t9.mono ?_
          rintro _ w10 ⟨rfl, N10⟩
          clear t9
          go_wp2_with fail
          refine (wakes_any _).mono ?_
          rintro _ w11 ⟨rfl, N11⟩
          go_wp2_with fail
          go_ret
          exact ⟨rfl, (((NN6.trans N7).trans N9).trans N10).trans N11⟩

end Go.Proofs.Ytamaijolggdakaa
